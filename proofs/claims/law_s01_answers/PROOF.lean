import PyProof.Rows.All
import Open.SpecLaws
import KE.OsGo
import PyProof.Rows.SortShellAny
import PySem.Challenge.RW_countproofs_s01_answers
set_option Elab.async false
set_option linter.all false
set_option maxRecDepth 100000
set_option maxHeartbeats 2000000
set_option compiler.extract_closed false
set_option maxHeartbeats 0 in
theorem wellK:PySem.Challenge.rw_countproofs_s01_answers.wellSaid=true:=by decide+kernel
namespace PySem.W.Fast
def tw14627080331729613891:=Nat
def tw16650754231065465743:=Nat
def tw6786871449597700937:=Nat
def tw10586150377161043335:=Nat
def tw6400345130423686915:=Nat
def tw11201331884055476754:=Nat
def tw5243018277606010174:=Nat
def tw12494461607985137391:=Nat
def tw3304440837854361364:=Nat
def tw4425993311883533035:=Nat
def tw14580008018732626449:=Nat
def tw2521591567330548449:=Nat
def tw8466929847117837884:=Nat
def tw18286368060144097776:=Nat
def tw13652569226598555284:=Nat
def tw2468655366860838412:=Nat
def tw16052063935065248052:=Nat
def tw18443965024400805294:=Nat
def tw8250161265212942247:=Nat
def tw458759640323245441:=Nat
def tw2498519407567987071:=Nat
def tw17272842135069751838:=Nat
def tw3994644287037513218:=Nat
def tw5408262366552999393:=Nat
def tw2178864377604713035:=Nat
def tw13469557781780836227:=Nat
def tw16731344350046496630:=Nat
def tw10764368158853461972:=Nat
def tw15351540467404970861:=Nat
def tw17354100045897940944:=Nat
def tw7948026293239558849:=Nat
def tw15280368799652516691:=Nat
def tw11374280467742434848:=Nat
def tw4613212992516391828:=Nat
def tw1904103556480744485:=Nat
def tw12369519662425987386:=Nat
def tw15150579404205079017:=Nat
def tw11156676983888262537:=Nat
def tw10958040577621214158:=Nat
def tw16980646627506525285:=Nat
def tw10144511966854711464:=Nat
def tw16874033677673482309:=Nat
def tw12632931843003461255:=Nat
def tw11278540809887641054:=Nat
def tw14288747195778349270:=Nat
def tw10314417410178868615:=Nat
def tw11432835142404944978:=Nat
def tw529416409370851517:=Nat
def tw9102054269561714417:=Nat
def tw5608019933885829422:=Nat
def tw18131722699110843985:=Nat
def tw3218745138439235923:=Nat
def tw12038561464989268409:=Nat
def tw17801638245210219553:=Nat
def tw16239702341271966395:=Nat
def tw5882878014510602961:=Nat
def tw8652021281153790423:=Nat
def tw12188067847123089329:=Nat
def tw9667030326336356318:=Nat
def tw12118801794861043919:=Nat
def tw7618442756694119505:=Nat
def tw5076759728297424370:=Nat
def tw4197724086315991227:=Nat
def tw4879609028805397505:=Nat
def tw15174976979364239973:=Nat
def tw6834679879285644253:=Nat
def tw3900175563450520319:=Nat
def tw14267554026638641798:=Nat
def tw13094020397220990842:=Nat
def tw11052904637730323422:=Nat
def tw14461211489705317773:=Nat
def tw1484122642867813568:=Nat
def tw6676983193498425015:=Nat
def tw130944890462532621:=Nat
def tw3237827166108125441:=Nat
def tw6578616437705735639:=Nat
def tw10946563236898305687:=Nat
def tw6599677766031898752:=Nat
def tw8180642319687630915:=Nat
def tw1266495954447298505:=Nat
def tw221225121100887316:=Nat
def tw15747441432442398131:=Nat
def tw3775991449346132612:=Nat
def tw11740591537306788777:=Nat
def tw12167305522229936102:=Nat
def tw17610578847793078828:=Nat
def tw10841547579281480247:=Nat
def tw646160865656829036:=Nat
def tw11782776748754089095:=Nat
def tw13945843876453012700:=Nat
def tw8353797131954403058:=Nat
def tw14506245989658159522:=Nat
def tw14113566410556130919:=Nat
def tw8732047652086628022:=Nat
def tw14197385198034614917:=Nat
def tw2478930579098046715:=Nat
def tw8288713501649452219:=Nat
def tw5749822713490787765:=Nat
def tw5090906845307090850:=Nat
def tw10569657693299815012:=Nat
def tw7767391489275030088:=Nat
def tw8306858879272652745:=Nat
def tw18329761922947201854:=Nat
def tw156187433137681369:=Nat
def tw8281025707836109601:=Nat
def tw6721354491018588445:=Nat
def tw17331592793132979815:=Nat
def tw2986396382874284391:=Nat
def tw11175278001734730432:=Nat
def tw15474705517306154867:=Nat
def tw3693407079027869518:=Nat
def tw18150438009273792433:=Nat
def tw8478814920381664153:=Nat
def tw13621970613899877545:=Nat
def tw6782027523742734422:=Nat
def tw882960669265878283:=Nat
def tw3184456312969305896:=Nat
def tw8043961906670939067:=Nat
def tw7781349839443521385:=Nat
def tw3209926656564544219:=Nat
def tw16536642500421359987:=Nat
def tw14876933243121894579:=Nat
def tw688006588494323361:=Nat
def tw14139627415142645410:=Nat
def tw17887319027178174127:=Nat
def tw10113625958434769776:=Nat
def tw1078264062753220898:=Nat
def tw36049751803089432:=Nat
def tw14360038955052803350:=Nat
def tw2943612378254228485:=Nat
def tw264592025436330420:=Nat
def tw15528837132736343588:=Nat
def tw11758303840565056082:=Nat
def tw932982029901103720:=Nat
def tw3665698009234882608:=Nat
def tw15682508066019177742:=Nat
def tw9878188910617140785:=Nat
def tw3637240009561124700:=Nat
def tw12874368441528503435:=Nat
def tw9028923894697092497:=Nat
def tw1372595785810771740:=Nat
def tw15937535865716121717:=Nat
def tw13829371927093448525:=Nat
def tw15320955228011458099:=Nat
def tw10549742295207223959:=Nat
def tw9288749412287943955:=Nat
def tw4987394294933755630:=Nat
def tw7509320478077954657:=Nat
def tw14732449218926329924:=Nat
def tw4861294229128701773:=Nat
def tw13526074003162589632:=Nat
def tw13918670052879819114:=Nat
def tw2901554832286038083:=Nat
def tw15790893318960960158:=Nat
def tw9660773252997461402:=Nat
def tw4337484924856078697:=Nat
def tw3544341903682421397:=Nat
def tw1557555430674731103:=Nat
def tw17743666198821462279:=Nat
def tw6253470586292755864:=Nat
def tw2298446790129687080:=Nat
def tw12488443171890778096:=Nat
def tw16488508864703211352:=Nat
def tw8258935249689543199:=Nat
def tw18047528565089203365:=Nat
def tw5737496762297978276:=Nat
def tw17531355168374878482:=Nat
def tw4926314443815860127:=Nat
def tw7929504168282619556:=Nat
def tw17393261779222510131:=Nat
def tw3683353869349811653:=Nat
def tw2378045464174701961:=Nat
def tw12422361490157883768:=Nat
def tw12121456531962156082:=Nat
def tw6821380412433359781:=Nat
def tw12070573576187443993:=Nat
def tw9583710279929945100:=Nat
def tw337875224132731015:=Nat
def tw17270741713198379328:=Nat
def tw7454725496219174841:=Nat
def tw16220481991712530127:=Nat
def tw7465492934549425070:=Nat
def tw4565245147385949819:=Nat
def tw9894871355127767000:=Nat
def tw4240786097456493432:=Nat
def tw12309483007818096553:=Nat
def tw7825121665987498325:=Nat
def tw15898876490577784637:=Nat
def tw13592217138712442423:=Nat
def tw9012717294462107005:=Nat
def tw1358187613571373667:=Nat
def tw16484855943846165014:=Nat
def tw3727183780421138074:=Nat
def tw15561769718294875778:=Nat
def tw18146259695880446831:=Nat
def tw5821823472377634567:=Nat
def tw17724713658851264329:=Nat
def tw15379650405749881042:=Nat
def tw586222292881791195:=Nat
def tw9799457917807359876:=Nat
def tw5566435392870025979:=Nat
def tw8187879454963655453:=Nat
def tw16614619942109298148:=Nat
def tw16079510580489043215:=Nat
def tw1125140694956492694:=Nat
def tw8027737248880907557:=Nat
def tw18341004164740765743:=Nat
def tw8969228298166091179:=Nat
def tw12539179351802836353:=Nat
def tw2357412894492479544:=Nat
def tw2633848926037211608:=Nat
def tw4441403942027882387:=Nat
def tw15364807989981055286:=Nat
def tw13618678875977691274:=Nat
def tw786981063576094907:=Nat
def tw5430995245213183660:=Nat
def tw12070591344636061682:=Nat
def tw14156519413552771971:=Nat
def tw1929658591477328998:=Nat
def tw17732718995274198556:=Nat
def tw11554577845334654944:=Nat
def tw7396307554121194775:=Nat
def tw1270697476918485138:=Nat
def tw12537989451670833535:=Nat
def tw12632020110198818496:=Nat
def tw1566846036064835940:=Nat
def tw3834141355999890754:=Nat
def tw2380204722700424274:=Nat
def tw13546378439934567682:=Nat
def tw3498244310688687115:=Nat
def tw10463970591603187280:=Nat
def tw10580113736740751031:=Nat
def tw9976696007453682198:=Nat
def tw5129815590241121771:=Nat
def tw17717006166036202146:=Nat
def tw5478486193308792111:=Nat
def tw4882111207496837565:=Nat
def tw2275968258546289859:=Nat
def tw11126779080387354726:=Nat
def tw1804136909846565425:=Nat
def tw9486606862069079150:=Nat
def tw6512787577383174679:=Nat
def tw8842242086546733728:=Nat
def tw9737469604959866642:=Nat
def tw14479943889519509907:=Nat
def tw9313595285701053689:=Nat
def tw16829397961561072166:=Nat
def tw1608905204125040910:=Nat
def tw4359108427019273005:=Nat
def tw9610201010827043206:=Nat
def tw6140563286352010634:=Nat
def tw9588654323068828985:=Nat
def tw3956187588502706885:=Nat
def tw12719116952844063862:=Nat
def tw5375191211671061517:=Nat
def tw9663977129751944881:=Nat
def tw16455940288431240534:=Nat
def tw12112199247579278788:=Nat
def tw5393121475550395192:=Nat
def tw15534880838116193308:=Nat
def tw13582082515623407199:=Nat
def tw10795499463310692645:=Nat
def tw3908674604942035567:=Nat
def tw13250038802303427271:=Nat
def tw16121270549223585860:=Nat
def tw15552827759987178151:=Nat
def tw9783833925789265718:=Nat
def tw12965636414819877801:=Nat
def tw13029152242137601216:=Nat
def tw4068335703659632365:=Nat
def tw17856168050900642125:=Nat
def tw5934410487977410405:=Nat
def tw5250925657664969792:=Nat
def tw3383411036434404394:=Nat
def tw2911179896940634865:=Nat
def tw10232422783416199495:=Nat
def tw5255449623325802444:=Nat
def tw6566734681043465170:=Nat
def tw13422499872739712667:=Nat
def tw5373727898828075943:=Nat
def tw15992652921006257436:=Nat
def tw4403267986337130703:=Nat
def tw11153163099397063134:=Nat
def tw8279586576335615114:=Nat
def tw10644539329473106710:=Nat
def tw13125699825347799964:=Nat
def tw3920013325286055475:=Nat
def tw16691300279179998296:=Nat
def tw11961697604036885944:=Nat
def tw10036835044629835105:=Nat
def tw12954027266922453088:=Nat
def tw12445136957069950685:=Nat
def tw6112063231709118865:=Nat
def tw15176818743843390414:=Nat
def tw8191166110686656465:=Nat
def tw14051089178699899635:=Nat
def tw3926403070871257996:=Nat
def tw17087085759439457178:=Nat
def tw2083468408830213697:=Nat
def tw5335184177777555415:=Nat
def tw6661505059133371089:=Nat
def tw13993838015920163029:=Nat
def tw4352670486653329315:=Nat
def tw16089669840786573830:=Nat
def tw16876388244291471449:=Nat
def tw11225644864894532778:=Nat
def tw10065633888325628455:=Nat
def tw11008936709319310209:=Nat
def tw16284830771101937006:=Nat
def tw17702854457708051502:=Nat
def tw14713083839286143728:=Nat
def tw9404292081097708020:=Nat
def tw16407539111756040464:=Nat
def tw9612758840393480750:=Nat
def tw8824343456703725745:=Nat
def tw12607521007319781811:=Nat
def tw4113567222576991741:=Nat
def tw11065873042256493280:=Nat
def tw14361703286746045598:=Nat
def tw1086886108063668748:=Nat
def tw13178087679007473773:=Nat
def tw10433782865210580322:=Nat
def tw1764180381174828835:=Nat
def tw18062307754874872562:=Nat
def tw7275719164279881616:=Nat
def tw7709290603132004301:=Nat
def tw12490965877515391478:=Nat
def tw17455093858502064949:=Nat
def tw10643894813444788447:=Nat
def tw6325353907495982800:=Nat
def tw17067956147940873426:=Nat
def tw431240989296642876:=Nat
def tw11596049847656910668:=Nat
def tw7424294030540662172:=Nat
def tw5970931060681725881:=Nat
def tw12235533993145805961:=Nat
def tw671214950230025726:=Nat
def tw2098224128134627977:=Nat
def tw10908761417325759495:=Nat
def tw10074173887524908756:=Nat
def tw146938441832963220:=Nat
def tw973359145349688737:=Nat
def tw13123639902971317059:=Nat
def tw1451614263686850137:=Nat
def tw17637438379036732865:=Nat
def tw8831607788040669884:=Nat
def tw8161892833671925798:=Nat
def tw9569864462518296998:=Nat
def tw9612634906370356947:=Nat
def tw15888506031043807556:=Nat
def tw11717039292368873154:=Nat
def tw13356742157548325885:=Nat
def tw7158679793421325962:=Nat
def tw16347368675445322029:=Nat
def tw13706504629273073746:=Nat
def tw3207272415174655996:=Nat
def tw785913145052555121:=Nat
def tw13182038768589363548:=Nat
def tw15856195192439957996:=Nat
def tw8233058890657895294:=Nat
def tw14280456402328676239:=Nat
def tw25714182332935597:=Nat
def tw3795368378456084732:=Nat
def tw4406687801866912002:=Nat
def tw753247680261437166:=Nat
def tw12539950750798083837:=Nat
def tw3683819778173411957:=Nat
def tw13434413479288391654:=Nat
def tw355636719722348121:=Nat
def tw387178324511202585:=Nat
def tw7785310666258110320:=Nat
def tw5367934797669642813:=Nat
def tw11157355131053465948:=Nat
def tw9167745050999211384:=Nat
def tw9198302849802859919:=Nat
def tw8283540436020619884:=Nat
def tw192855474964112095:=Nat
def tw1623064365135357269:=Nat
def tw16743167564075992146:=Nat
def tw3244987480310888464:=Nat
def tw2870207336671384484:=Nat
def tw10910245513254562438:=Nat
def tw13768504887227277791:=Nat
def tw1342577900305064113:=Nat
def tw1211872999033610700:=Nat
def tw13803012241071880223:=Nat
def tw11713697483465610776:=Nat
def tw7579822474644047792:=Nat
def tw12756293432383376812:=Nat
def tw7388103648144399865:=Nat
def tw9627704582884565749:=Nat
def tw11648561592996509571:=Nat
def tw16332948831974297753:=Nat
def tw10786905327605979064:=Nat
def tw6932161569418973543:=Nat
def tw2940473460079562723:=Nat
def tw17061274591673928652:=Nat
def tw11500229078491665010:=Nat
def tw4617278261934968330:=Nat
def tw4325537210522460536:=Nat
def tw12491400504398673448:=Nat
def tw4690756155597323005:=Nat
def tw6052246612628790578:=Nat
def tw13627349831925959248:=Nat
def tw17810747194233289805:=Nat
def tw6102981337759272168:=Nat
def tw18234123129598666342:=Nat
def tw9043213925311284348:=Nat
def tw13770222995053912140:=Nat
def tw2125648151409725831:=Nat
def tw12621155724077782028:=Nat
def tw3820725870930663851:=Nat
def tw6006372553270734289:=Nat
def tw18332675414166678029:=Nat
def tw13393670132889516869:=Nat
def tw1124226932607626085:=Nat
def tw6901621560349333921:=Nat
def tw4886576765086093616:=Nat
def tw18189842565713261319:=Nat
def tw16065998035683307131:=Nat
def tw12679748447028472108:=Nat
def tw8557981256398128993:=Nat
def tw7028896646234187205:=Nat
def tw2772816236992877233:=Nat
def tw1148201024839521844:=Nat
def tw279756079445169927:=Nat
def tw9464755943480301143:=Nat
def tw12445721352917372772:=Nat
def tw5246045564022409481:=Nat
def tw15051894152318310387:=Nat
def tw13903591382898872486:=Nat
def tw14112772788829515430:=Nat
def tw3655227174005183648:=Nat
def tw10080644144126731022:=Nat
def tw16735207192385351986:=Nat
def tw7125021623089763848:=Nat
def tw385588252309758921:=Nat
def tw10242824634418234180:=Nat
def tw4527564401539096656:=Nat
def tw7510236146285362385:=Nat
def tw8184217593709550133:=Nat
def tw7661124664660169420:=Nat
def tw3659202726145647038:=Nat
def tw3767799620821668659:=Nat
def tw3108001200799334839:=Nat
def tw13056036893181561258:=Nat
def tw16338348715389989142:=Nat
def tw3020956616354173313:=Nat
def tw3834347833418582082:=Nat
def tw16614756755523654614:=Nat
def tw11106007905112251033:=Nat
def tw8602794280528207429:=Nat
def tw1709280952523348831:=Nat
def tw10571235019072029084:=Nat
def tw3398496732356634939:=Nat
def tw14855529815057715031:=Nat
def tw3851233257441842638:=Nat
def tw3426249590852084426:=Nat
def tw5502063326014086990:=Nat
def tw17702494806381496101:=Nat
def tw3412651987242692391:=Nat
def tw13390131902254932412:=Nat
def tw9299788381185204813:=Nat
def tw2458910493576664945:=Nat
def tw11199935107062856965:=Nat
def tw18179952851230996271:=Nat
def tw6077033514162774437:=Nat
def tw11226026698739647200:=Nat
def tw3789399343417337574:=Nat
def tw2323043399175784243:=Nat
def tw100979207537015626:=Nat
def tw16482533729581023170:=Nat
def tw11920673560134645242:=Nat
def tw7870824316480473440:=Nat
def tw11664696604925521232:=Nat
def tw11979894598924081327:=Nat
def tw15917118341248380725:=Nat
def tw5029722553217335535:=Nat
def tw7983620794534622403:=Nat
def tw4563226781257310141:=Nat
def tw10149331235060491170:=Nat
def tw9209012794049689826:=Nat
def tw5068977863074694977:=Nat
def tw9772219290305663221:=Nat
def tw4452829672159258095:=Nat
def tw3431317181167031760:=Nat
def tw6898044006686895152:=Nat
def tw16536529492266528920:=Nat
def tw11390882471295173833:=Nat
def tw13595538524115326196:=Nat
def tw13838021860174326260:=Nat
def tw7684332388219822010:=Nat
def tw732079959950495448:=Nat
def tw9672315482722877585:=Nat
def tw1430177998601364396:=Nat
def tw6082469714712868401:=Nat
def tw18118653582907847645:=Nat
def tw12661283497061715982:=Nat
def tw10720159000381404871:=Nat
def tw11753491207755079634:=Nat
def tw16873848131145243557:=Nat
def tw14040422641069214911:=Nat
def tw8123009524439874510:=Nat
def tw15542368947824259742:=Nat
def tw11647126455462417451:=Nat
def tw17275748359171661595:=Nat
def tw2572302131725344653:=Nat
def tw6921137399268570138:=Nat
def tw2780322153101406660:=Nat
def tw11798830109857786124:=Nat
def tw4861631242480292463:=Nat
def tw17410827004637638026:=Nat
def tw17512752333296234371:=Nat
def tw5725846626424709184:=Nat
def tw12677698550563766947:=Nat
def tw6271873781601991347:=Nat
def tw14440634473794107928:=Nat
def tw16205532305656561679:=Nat
def tw3426999359924844251:=Nat
def tw13776015998435697393:=Nat
def tw2596370662799040632:=Nat
def tw13147433938790233910:=Nat
def tw11770177331112724734:=Nat
def tw13802927461978186866:=Nat
def tw15667713367989071253:=Nat
def tw15678243153165037380:=Nat
def tw7259778875397295425:=Nat
def tw6611835043472482458:=Nat
def tw13095959674498604470:=Nat
def tw15944698743086574358:=Nat
def tw7688876020145314006:=Nat
def tw8269677506359389440:=Nat
def tw7725318095732951176:=Nat
def tw4120145985626383783:=Nat
def tw8307916423425211047:=Nat
def tw583632240858115628:=Nat
def tw12457478233434247016:=Nat
def tw16494174562492496470:=Nat
def tw4136698391372918818:=Nat
def tw16159688469029664392:=Nat
def tw17046906289814549746:=Nat
def tw14820070059150175788:=Nat
def tw13063302518415051750:=Nat
def tw7902447315231182204:=Nat
def tw2240168833689170455:=Nat
def tw5101764743613640624:=Nat
def tw6530709743110969625:=Nat
def tw12796593978048308698:=Nat
def tw223020342826236049:=Nat
def tw6329480474673424882:=Nat
def tw13691530770003910545:=Nat
def tw4751313901662647671:=Nat
def tw16176714730186977143:=Nat
def tw9183138996413505265:=Nat
def tw16017999662897063149:=Nat
def tw18165642044922956790:=Nat
def tw2334990471470440145:=Nat
def tw6570793027052268767:=Nat
def tw3667431572505972422:=Nat
def tw10156292231179270021:=Nat
def tw15011582384126524888:=Nat
def tw3574170833925157663:=Nat
def tw14136860554356401830:=Nat
def tw7786675200721141502:=Nat
def tw18175558045720714769:=Nat
def tw17221045022348406028:=Nat
def tw3936653492282507167:=Nat
def tw1036224115224625863:=Nat
def tw6778423287299897521:=Nat
def tw9390114406514743263:=Nat
def tw13428560407027191587:=Nat
def tw3569455379684866359:=Nat
def tw10517134187622051611:=Nat
def tw17300148209780858980:=Nat
def tw2882459412217390830:=Nat
def tw14476559294107630747:=Nat
def tw2736214271018479459:=Nat
def tw723371200375473168:=Nat
def tw13227071901600454546:=Nat
def tw17699319197328470920:=Nat
def tw9040399994472044160:=Nat
def tw12961542421124474721:=Nat
def tw7600527194474975296:=Nat
def tw11908930553055478365:=Nat
def tw9432384859813769916:=Nat
def tw7731469123794708647:=Nat
def tw10444615919662813482:=Nat
def tw10040951426872325416:=Nat
def tw8320167929858848160:=Nat
def tw9306714859596072833:=Nat
def tw7838683064270601777:=Nat
def tw5759407715061352133:=Nat
def tw2445603020374813375:=Nat
def tw13562714135736250411:=Nat
def tw3370012029418758765:=Nat
def tw8385502973541361358:=Nat
def tw4133818802913703938:=Nat
def tw1067575035934954474:=Nat
def tw15867269574064221447:=Nat
def tw13097531306732772680:=Nat
def tw12583079277853201378:=Nat
def tw12146389924602033906:=Nat
def tw11666119236983139390:=Nat
def tw12142753935107384424:=Nat
def tw15532658552914475334:=Nat
def tw11583281756508072989:=Nat
def tw5993661990713086819:=Nat
def tw7950780826343601618:=Nat
def tw1390700315315525666:=Nat
def tw15463049941655399214:=Nat
def tw13184951536047286468:=Nat
def tw12890102417665695874:=Nat
def tw7534624342536476213:=Nat
def tw5188920338100193321:=Nat
def tw1863553749096601575:=Nat
def tw8251184747969471105:=Nat
def tw9798050290976068673:=Nat
def tw8109835379854875297:=Nat
def tw9192388357345539600:=Nat
def tw4674114421177698212:=Nat
def tw11375644557308714179:=Nat
def tw6629317497833710499:=Nat
def tw2908690865751000504:=Nat
def tw10503728366213045885:=Nat
def tw8250333282473667029:=Nat
def tw8296029404100735036:=Nat
def tw7263518270949005074:=Nat
def tw9117977305443424030:=Nat
def tw18038858127478902277:=Nat
def tw13682043632897215089:=Nat
def tw4500104203083522813:=Nat
def tw4743622703206890758:=Nat
def tw18405396720693702394:=Nat
def tw3490602607312504530:=Nat
def tw6053302923852734300:=Nat
def tw16498307103065250416:=Nat
def tw14174737360723864765:=Nat
def tw743459669975986370:=Nat
def tw14485457151661966044:=Nat
def tw15431962757373584093:=Nat
def tw11625352843814104370:=Nat
def tw1759240881999828800:=Nat
def tw3909731654069153804:=Nat
def tw149681126657309671:=Nat
def tw2217003825126468968:=Nat
def tw12647919235322722497:=Nat
def tw5164059626629842912:=Nat
def tw16986163755639902580:=Nat
def tw2897644525003887005:=Nat
def tw529145347129780841:=Nat
def tw7439706749995610518:=Nat
def tw1150190082369938852:=Nat
def tw1010820033354988069:=Nat
def tw10108853252993323929:=Nat
def tw10179927207188555476:=Nat
def tw3171279728636847849:=Nat
def tw5260384126333234435:=Nat
def tw17512633849361390672:=Nat
def tw14830724147674655844:=Nat
def tw3845833369043993213:=Nat
def tw8195683675425560786:=Nat
def tw12077927442347662574:=Nat
def tw9737202657212022431:=Nat
def tw9541152122027192069:=Nat
def tw15865076453242790439:=Nat
def tw11441922314783714853:=Nat
def tw4624154472689265586:=Nat
def tw7724589935595821633:=Nat
def tw2120940846759571136:=Nat
def tw9982963451423800935:=Nat
def tw3638313235232377349:=Nat
def tw1094901969663808873:=Nat
def tw17332715489118503753:=Nat
def tw6671840634692013360:=Nat
def tw4148497192846383733:=Nat
def tw16306081051261464731:=Nat
def tw7554451084093343856:=Nat
def tw2289381408116437216:=Nat
def tw7285157935554081139:=Nat
def tw3003614202995277381:=Nat
def tw14515846630759155889:=Nat
def tw16883935059547546438:=Nat
def tw9809629764694669526:=Nat
def tw13871754104591724034:=Nat
def tw11684047683999310976:=Nat
def tw4483367738186614494:=Nat
def tw11897046944678048202:=Nat
def tw13375858706163727759:=Nat
def tw10420781523696801136:=Nat
def tw4395719702560603020:=Nat
def tw1633828663883719748:=Nat
def tw16672519148670177033:=Nat
def tw13555874853995494419:=Nat
def tw14380377490527660259:=Nat
def tw7263904810936765311:=Nat
def tw17257147668252867542:=Nat
def tw10442384354588392477:=Nat
def tw9330486683603615940:=Nat
def tw13402863407280171304:=Nat
def tw4919487781080671454:=Nat
def tw8979434464285184343:=Nat
end PySem.W.Fast
section
open PySem PySem.W PyProof.Rows
local macro_rules|`(?$x:ident)=>if x.getId==`hc then `(by exact $(Lean.mkIdent `z)) else Lean.Macro.throwUnsupported
set_option maxHeartbeats 0 in
noncomputable def hd0:PSigma λp:Prop=>p->PySem.Challenge.rw_countproofs_s01_answers.Holds:=by
 refine' ⟨_,λz=>?_⟩
 rotate_left
 have q:=wellK;w_on;k_headS;(case hw=>exact ⟨[.list [.int 2]],by decide+kernel,by decide+kernel⟩)
end
open PySem.Paired renaming length->rZ
open Option.some renaming inj->cZ,injEq->l6
open PySem.Heap renaming lt_size->cG,get?_push_of_some->b_,get?_push_size->c7,size_push->i_,get?_update_self->xC,get?_update_other->qy,SameBut->Ĩ,ExtBut->Âi
open Nat renaming lt_of_lt_of_le->ia,lt_irrefl->lW,ne_of_lt->gm,le_trans->d5,le_of_lt->Óh,ne_of_gt->Bf,le_refl->aN,zero_le->cM,le_of_eq->FR,lt_succ_self->FS,le_of_succ_le->F1,lt_succ_of_lt->F2,zero_add->mS,sub_zero->xG,add_right_cancel_iff->OO,min_eq_left->BB,mul_comm->BD,pow_succ->OZ,mul_le_mul_right->afp,pow_le_pow_right->afq,toDigits_of_lt_base->afr,le_add_right->Èh,add_zero->Èi,add_comm->Èj,lt_trichotomy->Ëh,sub_self->Ëj,mul_assoc->Ìc,toDigits->Ìe
open List renaming mem_filter->r_,mem_range->FN,filterMap_cons->FO,mem_cons_self->kN,mem_cons_of_mem->f8,mem_cons->a_,mem_append->d6,mem_append_left->Ói,getElem?_eq_some_iff->b9,getElem?_set_self->Ój,getElem?_set_ne->Ôa,mem_filterMap->aeW,mem_append_right->qx,size_toArray->cx,any_eq_false->Ôc,length_cons->aJ,map_cons->bz,length_map->aK,append_nil->jW,nodup_cons->si,of_mem_zip->Ôe,length_take->eh,getElem?_append_right->lY,getElem?_append_left->jX,getElem?_map->aR,mem_of_getElem?->bM,length_append->bw,length_replicate->ae1,length_drop->ib,length_set->FY,all_cons->d7,any_cons->kP,length_singleton->dP,length_dropLast->FZ,map_nil->mP,take_of_length_le->jZ,getD_eq_getElem?_getD->jy,range_succ_eq_map->ae7,any_map->Bi,all_map->oJ,forIn_nil->Bj,forIn_cons->Bk,lookup_cons->vd,getElem?_eq_none->j0,mem_map->bZ,all_eq_true->dQ,cons_append->Om,length_nil->f9,nodup_nil->F4,getElem?_eq_getElem->bL,drop_zero->jb,take_succ_cons->vf,take_left->OB,drop_eq_getElem_cons->mQ,take_zero->F8,append_assoc->jc,drop_drop->so,length_pos_iff->Bq,drop_length->mR,nil_append->vg,drop_left->OC,getElem_mem->Br,toList_toArray->vh,map_congr_left->oM,any_eq_true->l7,mem_singleton->F_,set_set->xK,eq_nil_of_length_eq_zero->kQ,range'_succ->OK,zipIdx_cons->kR,dropWhile_suffix->sy,length_eq_zero_iff->ON,takeWhile_cons->oN,take_append_drop->OP,tail_cons->OQ,map_append->bU,not_mem_nil->fj,filter_cons->jd,filter_congr->OR,getLastD_cons->afi,getLastD_mem_cons->afj,map_id->vk,dropWhile_cons->vm,map_drop->By,map_map->cV,pairwise_cons->sE,pairwise_lt_range->afl,filter_append->sH,flatMap_cons->l8,flatMap_append->vn,sum_append->xM,fst_mem_of_mem_zipIdx->OT,mem_or_eq_of_mem_set->xN,getElem?_dropLast->Bz,foldl_append->sI,foldl_cons->jf,sum_cons->l9,head?_drop->Óg,map_singleton->oP,map_set->xO,getElem?_of_mem->OU,findIdx_lt_length_of_exists->OV,findIdx_getElem->afm,length_filter_le->mU,drop_succ_cons->Gg,take_length->l_,mem_of_mem_drop->afo,reverse_cons->jA,length_reverse->BA,map_take->BC,getElem?_drop->xQ,takeWhile_prefix->Gh,takeWhile_append_dropWhile->Gi,getLast?_eq_getElem?->OY,getLast?_eq_none_iff->afu,not_any_eq_all_not->afv,getLast?_cons_cons->O0,length_range->BE,getElem_of_mem->mZ,range->ø,length->ő,lookup->Ť,range'->Λ,head?->ω,replicate->ϖ,dropWhile->ϸ,takeWhile->Ãg,map->Ãj,filter->Äb,getElem_inj->Åc,isEmpty_iff->Éa,tail_drop->Ëi,map_dropLast->Ìf,range_succ->Ìg,getElem_map->Ìh,map_fst_zip->Ìi,length_zip->Ìj,getElem_zip->Ía,map_snd_zip->Íb,all_eq_false->Íc
open Ne renaming symm->cB
open PySem renaming wpAny_mono->iZ,wpAny_truthy_bool->lX,wpAny_execs_nil->FP,wpAny_bind->aA,wpAny_holding->oI,wpAny_standAt->FQ,wpAny_passesOwn->u7,wpAny_pure->bc,wpAny_pyIter_list->Ôb,sizeLine_eq->bn,codeAny_mono->FT,wpAny_Call_Name_kw->u_,mem_of_lookup->jx,wpAny_field->ja,wpAny_callSpecial?_slot->va,wpAny_call_entry->mO,wpAny_newObj_type->lZ,seqIndex_of->FW,seqIndex_neg->FX,typeIs_str->jY,evalArgs_none->ae5,call_meets->l5,pushCells_keeps->F0,tupleKind_room_in1->Bn,call_meetsIn->F5,wpAny_Call_method->Oq,wpAny_pyIter_slot->Ot,wpAny_dictEntries->Ou,wpAny_dictEpoch->Ov,wpAny_attempt->ve,wpAny_typeNameOfWhole_keyiter->F7,wpAny_setField->Bp,wpAny_of_eq->xF,wpAny_isInstance->Oz,isSubtype_stop->OA,codeAny_builtin->OE,wpAny_seqItems->su,wpAny_tryCatch->Bt,wpAny_updateSeq->F',wpAny_letGo->xJ,plainId_quiet->Ga,wpAny_rule->Gb,typeLookup_type->Bu,builtinLookup_eq_fast->Bv,isSubtype_type->Bw,wpAny_loadPart'->OJ,wpAny_setField_rec->Bx,wpAny_onRaise->OL,wpAny_newTuple->OM,boot_len->mT,Addr->À,Value->Á,Str->Ã,wpAny->Ç,sizeLine->É,Shared->Ì,model->Í,eval->Ï,starEach->Ð,Obj->Ó,Heap->á,Expr->â,backTo->æ,World->è,Tok->í,mainGlobals->î,Program->ò,compareOp->ó,IsPair->ú,cellsFrom->ý,Env->Ă,sysModules->Ĉ,pyNext->ĉ,attributeBase->Ċ,rawInt->Č,compEnvC->č,Stmt->Đ,NameKind->đ,Builtin->Ē,IsZip->ē,backToKw->Ė,keywordEach->ė,Keyword->Ę,holding->ģ,cLine->Ĥ,rule->ĩ,Code->ı,Slot->Ĳ,DictEntry->ĳ,Around->ń,standAt->Ņ,Scope->Ō,swapsWith->ō,getItem->Ŏ,codeAny->ŏ,atKey->Œ,Params->ŕ,behindInMarks->ş,assignEach->Š,pyIter->š,getMethod->Ţ,bindL->ť,bindC->Ŧ,PyData->ŧ,pushCells->Ũ,valueAt->ũ,argBest->Ŭ,limitOf->ŭ,bootBuiltins->ź,assign->ż,foldedSetIterable->Ž,binaryOp->ž,sliceBounds->ſ,intItems->Δ,tupleKind->δ,isTrue->ε,Operator->ζ,FuncData->θ,BindsTo->ι,callWith->μ,typeLookup->ξ,notedBy->ρ,callerA->υ,argsOk->χ,bindArgs->ϕ,typeOf->ϗ,setItem->ϣ,letOwnedTupleGo->Ϥ,IsRangeIter->ϥ,seqIndex?->Ϫ,subscripted->ϫ,firstArgMember->ϭ,isSubtype->ϴ,Within->Ài,builtinsNs->Áa,storeName->Áb,wpAny_Name->Ác,inplaceOp->Áe,PassesOwn->Áf,PlainAttrs->Âf,strValues->Âj,seqItems?->Ãc,wpAny_loadName_local->Åd,wpAny_loadName_cell->Åe,wpAny_isTrue_Compare1->Åf,wpAny_execs_cons->Åg,wpAny_assign_Name->Åh,wpAny_pyNext_range_end->Æa,wpAny_pyIter_rangeiter->Æb,wpAny_pyIter_range->Æc,noFill_tuple_add->Æg,slot_list_getitem->Æj,wpAny_getItem_list_neg->Ça,wpAny_getItem_of->Çe,wpAny_specialOf->Çf,wpAny_Dict_empty->Çg,meets_dict_get_default->Çh,wpAny_pyIter_revIter->Çi,wpAny_pyIter_ascii->Çj,wpAny_isOneOf_keyiter->Èd,wpAny_pyIter_enum->Èg,length_partsBetween->Éc,call->Êa,entryFor_of_tree->Êd,wpAny_updateSeq_pair->Êh,wpAny_pyIter_zip->Ëd
open PySem.Calls renaming Name_function_global->aeV,spliced_nil->Bg,spliced_cons->sh,callWith_builtin->vb,evalArgs_plain->Bh
open Array renaming length_toList->qw,getElem?_toList->Ôf,getElem?_eq_none->F6,getElem?_eq_some_iff->afc,getElem?_eq_getElem->Ow,toList->Ád
open Bool renaming false_ne_true->eg,false_and->kO,eq_iff_iff->sf,and_eq_true->aS,or_false->xB,and_false->vc,false_eq_true->oK,or_eq_true->j3,false_or->F3,and_eq_true_iff->afg,or_eq_false_iff->Óf,and_true->Óe,true_and->je,and_eq_false_iff->afn,or_true->OX,noConfusion->Ãb,not_eq_true->Ëf,not_eq_true'->Ëg
open PyProof.Rows renaming callWith_type1->u9,slot_tuple_getitem->Oj,envOfC->Ň,IsTup->ŝ,AllBare->Ż,Call_->η,seqObj->ψ,boot_any->ϝ,boot_all->Àa,Subscript_->Âc,subscriptTail->Âd,iadd_int->Åi,subscriptTail_builtinR->Æi,callWith_builtin1->Ðf,signs_ofString->Ñd,partition_whole->Ñe,split_le->Ñf,join_list->Ñg,join_tuple->Ñh,in_str->Ñj,notIn_str->Òa,kmk_tree->Òd,callWith_kw->Òe
open PySem.W renaming plainGet_of->Ôd,callWith_K->FU,methodCall_KW->aeX,callWith_K0->aeY,cellsFrom_some->aeZ,length_le_weightAllW->aff,mg_of->sJ,Frag->Ñ,WData->ă,findIn->ą,fnOf->Ī,keepIn->İ,nsIn->Ń,instObj->Ş,emptyDict->ţ,WellAll->ū,codeIn->ν,isFn->ϓ,lookIn->Ϧ,plainGet->ϧ,methodObj->Àj,hasDictIn->Áh,takerIn->Ái,makesIn->Áj,handedIn->Æe,plainOver->Æf,WRecords->Ég,WalkOS->Éj
open Option renaming isSome_iff_exists->ae0,map_eq_some_iff->ae6,map_some->qz,isSome_map->On,none->Ãa,some->O,none->U
open PySem.F renaming slot_tuple_add->ae2,entry_tuple_add->ae3,args_tuple_add_2->ae4,slot_dict_getitem->ae8,slot_dict_get->Bo,entry_dict_get->Oo,args_dict_get_3->Op,plainAttrs_dict->Os,type_dict_get->ae9,slot_dict_keyiterator_next->xD,entry_dict_keyiterator_next->afa,args_dict_keyiterator_next_1->afb,slot_dict_keyiterator_iter->afd,slot_str_split->sr,entry_str_split->xH,args_str_split_2->OD,plainAttrs_str->F9,entry_max_loop->OF,plain_max_loop->vi,args_str_split_3->OI,slot_dict_setdefault->afh,plainAttrs_list->jz,slot_list_pop->mV,type_list_pop->mW,slot_str_index->afs,type_str_index->aft,slot_list_extend->O1,type_list_extend->O2,slot_list_append->Çb,entry_list_extend->Çc,args_list_extend_2->Çd,slot_dict_iter->Èa,slot_str_partition->Éd,type_str_split->Ée,slot_str_startswith->Êc,slot_tuple_getitem->Êe,slot_tuple_index->Êg,slot_zip_next->Ëa,entry_zip_next->Ëb,args_zip_next_1->Ëc
open Int renaming toNat_natCast->sj,toNat->γ
open PySem.Obj renaming isFreed_of_fields->Ox,data_mapFields->xE,mapSeq->ο,mapFields->Èe,cls_mapFields->Èf
open PySem.Heap.SameBut renaming update->Oy
open PySem.StrLaws renaming found_one->afe,sliceText->ς,occ_length_le->Éb,strSliceIndices_plain->Òb,sliceText_nat->Òc
open PySem.Around renaming under_plainId->OG,under->Âa
open PySem.PassesOwn renaming never->sv
open Prod.mk renaming injEq->sx
open List.IsSuffix renaming length_le->vj
open Eq renaming trans->oO
open List.Pairwise renaming filter->afk,nil->Äc,and->Ób,map->Ód
open UInt8 renaming lt_iff_toNat_lt->Gf,toNat_inj->oQ,le_iff_toNat_le->Gk,toNat->å,ofNat->ŀ
open List.IsPrefix renaming length_le->OW
open List.cons renaming inj->Gj
open Vaneta renaming Formula->Â,Text->Ä,nodes->Å,dual->Æ,Sequent->È,fill->Ò,Name->Ô,isName->Õ,inBounds->Ø,cutAt->Ú,isWord->Ü,deep->Ý,form->ã,Token->ä,atoms->ï,level->ñ,isTwo->ô,allOf->û,signOf->þ,isSign->Ą,seqLeaves->ć,tokensFrom->Ĕ,formulaOf->ĕ,before->ĝ,countOf->Ğ,fillBy->ħ,leaves->Ĭ,paren->ĵ,isSmall->Ķ,namesOf->ŋ,given->ŗ,sequentForm->Ś,putName->Ŵ,toldText->Íj
open Vanetb renaming Proof->Ê,premises->Ë,sequentAt->Î,appended->Ö,Rule->Ù,numberOf->Û,makes->Þ,theFormula->ß,spreadSize->à,decimal->é,Line->ê,under->ë,does->ì,renumbered->ð,behindBlanks->ö,kindOf->ù,changed->ÿ,lineRead->Ć,isDigit->ď,isWhyNot->ě,linesOf->Ĝ,numbersOf->Ġ,extended->ġ,underFrom->Ģ,ruleOf->ĥ,isUsed->Ħ,ruleBy->ĭ,wCut->ķ,wWith->ĸ,wPlus1->Ĺ,wCon->ĺ,wProm->Ļ,readRule->ļ,readProof->Ľ,ruleAt->ľ,sizeSpread->Ŀ,lineText->Ł,wAx->ň,allInBounds->ŉ,partOf->Ŋ,spreadFormula->Ř,proofText->ř,wTensor->Ů,wPar->ů,wDer->Ű,readFrom->ű,spaced->Ŷ,wPlus2->Ξ,wWeak->Φ,spread->Ψ,unlike->ϊ,theSequent->Ϗ,step->ϒ,digitsFrom->Ϝ,toldList->Ϟ,takenTwo->Ϲ,spreadFrom->Ϻ,heightOf->ϻ,openLines->Àf,isUnder->Äa,Out->Íe,doProof->Íf,doLine->Íg,doFind->Íh
open PySem.Value renaming ref->ç,none->į,str->ś,bool->Ŝ,int->Ÿ,type->Ź,isInt->Äg,isStrOf->Äh,bytes->Åa,float->Åb
open Except renaming ok->õ,error->Íi
open Sum renaming inl->ü,inr->ċ
open PyFlat renaming rows->Ā,told->ϡ,played->Ϣ,calls->Àh
open VanetbNeutral renaming step->ā,text?->ŵ,two?->Àg,encode->Íd,callOf->Îa,start->Óc
open PySem.Txt renaming partition->Ď,split->œ,splitMax->Ŗ,startswith3->ϛ,join->Ϯ,isdigit->ϰ,stripChars->ϵ
open PySem.Str renaming ofString->ę,empty->ϔ
open PySem.Builtin.Str renaming strKind->Ě,strSliceIndices->Ŕ,occurrences->Ū,partsBetween->ϯ
open PyVanetb renaming shape->ğ,bound->ł,answers->ŷ,whole->ϐ,answers_asked->Äf
open Or renaming inr->ī,inl->Ĵ
open NeutralIO renaming bytes->Į
open False renaming elim->ņ
open True renaming intro->Ő
open Vaneta.Formula renaming plus->Ų,whn->ų,par->ϋ,tensor->ό,wth->ύ,ofc->ώ
open PySem.PyData renaming str->Θ,eqvAll->Ω,depthAll->ϑ,eqv->ϙ,canLay0->Àb,canLayAll0->Àc,strOk->Ìa,depth->Ìb
open PySem.NameKind renaming free->π,cell->Âh
open PySem.W.Codec renaming encAll->τ,app->Ϛ,denoteAll->ϱ,withinAll->Éi
open PySem.Builtin.List renaming listTooLong->Ϙ
open PyInside renaming lists->ϟ,calls->Ϡ,call->Äe
open PySem.Builtin.Slice renaming slicePlaces->Ϩ,sliceAdjust->Âb,sliceApplied->Æh,slicePartIndex->Ðg,sliceFields->Ðh
open PySem.Builtin.Tuple renaming tupleExact->ϩ,tupleItemsOf->Ði
open ForInStep renaming yield->Ϭ
open PySem.W.WData renaming weightAll->ϲ,int->Éf
open PySem.Data renaming seq->ϳ
open PySem.Builtin.SmallTypes renaming ownedTupleIsFree->Ϸ,nextOf->Ãe,iterAll->Ãf,ownedTupleHandOut->Êi,newClass->Êj,stopIteration->Òf,newRecord->Òj
open PySem.SeqAt renaming shaped->Àd
open PySem.Unicode renaming isDigit->Àe
open PySem.Builtin.Range renaming rangeSize->Ág,small->Ñb
open PyProof.Rows.IsTup renaming new->Âe
open PySem.Walks renaming list->Âg,range->Åj
open PySem.Slot renaming of->Ãd
open Vanetb.Rule renaming weak->Ãh,plus1->Ãi
open Char renaming toNat->Äd
open Sum.inl renaming inj->Äi
open Sum.inr renaming inj->Äj
open PySem.IsRange renaming new->Æd
open PySem.Builtin.Dict renaming showsAll->Èb,dictSlotNone->Ñc
open PySem.Builtin.Dict_items renaming ownsTuple->Èc
open PySem.Value.type renaming inj->Éh
open PySem.Builtin.Builtins renaming bindParams->Êb
open Std.Legacy renaming Range->Êf
open Vaneta.Token renaming sign->Ëe
open PySem.NumText renaming digitsVal->Ìd
open PySem.EqNone renaming eq_none_none->Îb,eq_none_bool->Îc,eq_none_int->Îd,eq_none_str->Îe,eq_bool_none->Îf,eq_int_none->Îh,eq_str_none->Îj,ne_none_none->Ïc,ne_none_bool->Ïd,ne_none_int->Ïe,ne_none_str->Ïf,ne_bool_none->Ïg,ne_int_none->Ïi,ne_str_none->Ða
open PySem.EqMixed renaming eq_bool_str->Îg,eq_int_str->Îi,eq_str_bool->Ïa,eq_str_int->Ïb,ne_bool_str->Ïh,ne_int_str->Ïj,ne_str_bool->Ðb,ne_str_int->Ðc
open PySem.W.Looks renaming here->Ðd
open PySem.Within renaming cons->Ðe
open PySem.Heap.IsSliceOf renaming new->Ðj
open PySem.Heap.DictOf renaming new->Ña
open PySem.W.KIN renaming call_text->Ñi
open Std.Legacy.Range renaming forIn_eq_forIn_range'->Òg,size->Òh
open PySem.Heap.IsList renaming push->Òi
open PySem.Challenge renaming pw_countproofs_s01_answers->Óa
noncomputable section
def bO:=@decide_eq_false
def gk:=@beq_eq_false_iff_ne
def aj:=@if_pos
def ai:=@if_neg
def qv:=@funext
def dO:=@trivial
def cw:=@congrArg
def jV:=@beq_iff_eq
def i':=@if_false
def fi:=@if_true
def Bm:=@not_or
def du:=@decide_eq_true_eq
def bP:=@decide_eq_true
def sk:=@beq_self_eq_true
def xI:=@ne_true_of_eq_false
def dR:=@of_decide_eq_true
def xL:=@bne_iff_ne
def fk:=@or_false
def OS:=@decide_eq_false_iff_not
def ic:=@forall_eq_or_imp
def ie:=@forall_eq
def xP:=@and_self
def iC:=@decide_eq_decide
def J{a:α}:a=a:=rfl
inductive c2{α β:Sort _}(p:α->β->Prop):Prop|m(a:α)(b:β)(_:p a b)
inductive c3{α β γ:Sort _}(p:α->β->γ->Prop):Prop|m(a:α)(b:β)(c:γ)(_:p a b c)
inductive c4{α β γ δ:Sort _}(p:α->β->γ->δ->Prop):Prop|m(a:α)(b:β)(c:γ)(d:δ)(_:p a b c d)
inductive c0{α β γ δ ε:Sort _}(p:α->β->γ->δ->ε->Prop):Prop|m(a:α)(b:β)(c:γ)(d:δ)(e:ε)(_:p a b c d e)
inductive c1{α β γ δ ε ζ η:Sort _}(p:α->β->γ->δ->ε->ζ->η->Prop):Prop|m(a:α)(b:β)(c:γ)(d:δ)(e:ε)(f:ζ)(g:η)(_:p a b c d e f g)
inductive dc(a b c:Prop):Prop|m(_:a)(_:b)(_:c)
inductive dl(a b c d:Prop):Prop|m(_:a)(_:b)(_:c)(_:d)
inductive dr(a b c d e:Prop):Prop|m(_:a)(_:b)(_:c)(_:d)(_:e)
inductive dC(a b c d e f:Prop):Prop|m(_:a)(_:b)(_:c)(_:d)(_:e)(_:f)
inductive dX(a b c d e f g:Prop):Prop|m(_:a)(_:b)(_:c)(_:d)(_:e)(_:f)(_:g)
inductive dY(a b c d e f g h:Prop):Prop|m(_:a)(_:b)(_:c)(_:d)(_:e)(_:f)(_:g)(_:h)
inductive ej(a b c d e f g h i:Prop):Prop|m(_:a)(_:b)(_:c)(_:d)(_:e)(_:f)(_:g)(_:h)(_:i)
def gg{G:Prop}(h:∀P:Prop,(G->P)->P):G:=h G id
def ad{α:Type}:Nat->(List α->Prop)->Prop
|0,p=>p []
|n+1,p=>∀a,ad n λl=>p (a::l)
theorem aZ{α:Type}:∀{n}{p:List α->Prop},ad n p->∀us,us.length=n->p us
|0,_,h,[],_=>h
|_+1,_,h,a::l,e=>aZ (h a) l (Nat.succ.inj e)
def eG{α}{r:α}{p:Prop}(e:none=some r):p:=nomatch e
def Z{p:Prop}(h:p:=by first|lia|omega):p:=h
def gn{p:Prop}(h:p:=by decide):p:=h
def Gc{p:Prop}(h:p:=by simp):p:=h
def OH{p:Prop}(h:p:=by decide+kernel):p:=h
def Ge{p:Prop}(h:p:=by show 1<=É;decide):p:=h
def Ob{p:Prop}(h:p:=by show 2<=É;decide):p:=h
def Oc{p:Prop}(h:p:=by show 2<1000;decide):p:=h
def Od{p:Prop}(h:p:=by simp only[Å];omega):p:=h
def Oe{p:Prop}(h:p:=by simp only[ð];omega):p:=h
def Of{p:Prop}(h:p:=by simp only[Ý];omega):p:=h
namespace L2
open PySem PySem.Spec PyProof.Rows
variable {xs f_ zs vals:List V} {us aD:List Á} {x f name m qual q:Ã} {u:Á} {H H' H1 H2:Hp} {a b it D l dx C d I zp i1 i2 l2:À} {o e c tg iter value elt e2:â} {P prog:ò} {w:è} {h h' h1 h2 base:á} {α κ:Type} {o':HO} {vy ex ex' ch fp wr:List À} {X:Cx} {pins:List (À×Ó)} {z:St} {s s':Ì} {t' i j n ep kk:Nat} {N ps ks loose:List Ã} {M:Model} {A:ń} {E Q:Á→Ì→Prop} {v y:V} {pos pos' ub p apos kpos p2 cf kp cp:Pos} {ta tb te tc to tv td tx:TE} {op:CmpOp} {tA BK tt:TT} {K:Ñ} {st:Đ} {es ifs elts:List â} {g:TG} {body:List Đ} {R:Result→Ì→Prop} {hi:Option â} {pl:Sem Bool} {wi:TI} {r:R2} {ag:List (aL×V)} {mA mg:Ã→Option Á} {ns:List Int} {kw:List (Ã×Á)} {ah:Ă} {CX:sV} {fd:θ} {sp:Sp} {b0:List Ă} {ds:List ă} {kws:List Ę} {nm:Option Ã} {gV:List V→List V→List V} {sc scope:Ō} {od:Ó} {T:String} {items:Array Á} {th:TO} {cells:List (Ã×À)} {own:List (Ã×Nat)} {acc:List Nat} {Qd:Hp→Prop} {vs:List (κ×Á)}
abbrev aL:=Sum Int Ã
noncomputable def nV:aL->Á->Bool
|.inl k,v=>Äg k v
|.inr x,v=>Äh x v
def QE(w:è):aL->Int
|.inl k=>hashInt k
|.inr x=>hashStr w x
def mj:∀{k:aL}{v:Á},nV k v=true->(c2 λi t=>k=ü i/\v=Ÿ i t)\/(c2 λx t=>k=ċ x/\v=ś x t)
|.inl i,v,h=>by obtain⟨t,e⟩:=Value.isInt_shape h;exact .inl ⟨i,t,J,e⟩
|.inr x,v,h=>by obtain⟨t,e⟩:=Value.isStrOf_shape h;exact .inr ⟨x,t,J,e⟩
def QF(i:Int)(t):nV (.inl i) (.int i t)=true:=by simp[nV,Äg]
def CG(x:Ã)(t):nV (.inr x) (.str x t)=true:=by simp[nV,Äh]
def QG(a b:Int):decide ((ü a:aL)=ü b)=(a==b):=by
 by_cases e:a=b
 .subst e;simp
 .let h:¬(ü a:aL)=ü b:=λq=>e<|Äi q;exact bO h▸(gk.mpr e).symm
def QH(a b:Ã):decide ((ċ a:aL)=ċ b)=decide (a=b):=by
 by_cases e:a=b
 .subst e;simp
 .let h:¬(ċ a:aL)=ċ b:=λq=>e<|Äj q;rw[bO h,bO e]
def QI(a:Int)(b:Ã):decide ((ü a:aL)=ċ b)=false:=bO λq=>nomatch q
def QJ(a:Ã)(b:Int):decide ((ċ a:aL)=ü b)=false:=bO λq=>nomatch q
def eV(prog:ò)(w:è):PySem.KeyKind prog w aL where
 is:=nV
 hash:=QE w
 inj:=λv a b ha hb=>by
  rcases mj ha with⟨i,t,rfl,rfl⟩|⟨x,t,rfl,rfl⟩
  .rcases mj hb with⟨j,u,rfl,e⟩|⟨y,u,rfl,e⟩
   .injection e with e1 _;rw[e1]
   .exact nomatch e
  .rcases mj hb with⟨j,u,rfl,e⟩|⟨y,u,rfl,e⟩
   .exact nomatch e
   .injection e with e1 _;rw[e1]
 byValue:=λk v h=>by
  rcases mj h with⟨i,t,rfl,rfl⟩|⟨x,t,rfl,rfl⟩<;>rfl
 pyHash:=λhv h=>by
  rcases mj hv with⟨i,t,rfl,rfl⟩|⟨x,t,rfl,rfl⟩
  .exact wpAny_pyHash_int h
  .exact wpAny_pyHash_str h
 eqBool:=λhu hv h=>by
  rcases mj hu with⟨i,t,rfl,rfl⟩|⟨x,t,rfl,rfl⟩
  .rcases mj hv with⟨j,u,rfl,rfl⟩|⟨y,u,rfl,rfl⟩
   .rw[QG]at h;exact wpAny_eqBool_int h
   .rw[QI]at h;exact SeqAt.EqAt.int_str i t y u _ _ _ _ h
  .rcases mj hv with⟨j,u,rfl,rfl⟩|⟨y,u,rfl,rfl⟩
   .rw[QJ]at h;exact SeqAt.EqAt.str_int x t j u _ _ _ _ h
   .rw[QH]at h;exact wpAny_eqBool_str h
 «strs»:=λk x t v h=>by
  rcases mj h with⟨i,u,rfl,e⟩|⟨y,u,rfl,e⟩
  .exact nomatch e
  .injection e with e1 _
   subst e1;cases v<;>rfl
def QK(prog:ò)(w:è)(i:Int)(t):(eV prog w).is (.inl i) (.int i t)=true:=QF i t
def QL(prog:ò)(w:è)(x:Ã)(t):(eV prog w).is (.inr x) (.str x t)=true:=CG x t
inductive V where
 |aQ|bl (b:Bool)|int (i:Int)|str (x:Ã)|ig (b:Array UInt8)|BF (b:UInt64)|ref (a:À)|ty (n:String)
 deriving DecidableEq
def bm:V->Á->Prop
|.aQ,u=>u=į
|.bl b,u=>u=Ŝ b
|.int i,u=>∃t,u=Ÿ i t
|.str x,u=>∃t,u=ś x t
|.ig b,u=>∃t,u=Åa b t
|.BF b,u=>∃t,u=Åb b t
|.ref a,u=>u=ç a
|.ty n,u=>u=Ź n
abbrev aX:List V->List Á->Prop:=Paired bm
def aX.length(r:aX xs us):xs.length=us.length:=rZ r
theorem aX.get:∀{xs:List V}{us:List Á}{i:Nat}{x:V},aX xs us->xs[i]?=O x->∃u,us[i]?=O u/\bm x u
|_,_,_,_,.nil=>λe=>by simp at e
|_,_,0,_,.cons r _=>λe=>by simp at e;subst e;exact⟨_,J,r⟩
|_,_,i+1,x,.cons _ t=>λe=>by obtain⟨u,h1,h2⟩:=aX.get (i:=i) (x:=x) t (by simpa using e);exact⟨u,by simpa using h1,h2⟩
theorem aX.set{x:V}{u:Á}(r:bm x u):∀{xs:List V}{us:List Á}(i:Nat),aX xs us->aX (xs.set i x) (us.set i u)
|_,_,_,.nil=>.nil
|_,_,0,.cons _ t=>.cons r t
|_,_,i+1,.cons q t=>.cons q<|aX.set r i t
theorem aX.append:∀{xs ys:List V}{us a:List Á},aX xs us->aX ys a->aX (xs++ys) (us++a)
|_,_,_,_,.nil=>λs=>s
|_,_,_,_,.cons r t=>λs=>.cons r<|aX.append t s
theorem aX.take:∀{xs:List V}{us:List Á}(n:Nat),aX xs us->aX (xs.take n) (us.take n)
|_,_,0,_|_,_,_+1,.nil=>.nil
|_,_,n+1,.cons r t=>.cons r<|aX.take n t
theorem aX.drop:∀{xs:List V}{us:List Á}(n:Nat),aX xs us->aX (xs.drop n) (us.drop n)
|_,_,0,r=>r
|_,_,_+1,.nil=>.nil
|_,_,n+1,.cons _ t=>aX.drop n t
def gx:Option V->Option Á->Prop
|some v,O u=>bm v u
|none,U=>True
|_,_=>False
def KV{κ}:List (κ×V)->List (κ×Á)->Prop:=Paired λp q=>p.1=q.1/\bm p.2 q.2
def kV:aL->V
|.inl i=>.int i
|.inr x=>.str x
inductive HO where
 |ae (xs:List V)
 |be (xs:List V)
 |dK (ag:List (aL×V))|dT (ag:List (List aL×V))
 |set (S:Int->Bool) (n:Nat)
 |aO (C dx:À) (fs:List (Ã×V))
 |own (x:À)
 |xd (fs:List (Ã×V))
 |Gm (f x:À)
 |Gn (lo hi:Int)
 |cn (o:Ó) (u:HO)
 |sK (ps:Array Á)
 |ext (φ:á->Prop)
abbrev Hp:=À->Option HO
def ab(H:Hp)(a:À)(o:HO):Hp:=λb=>if b=a then O o else H b
def aq{o:HO}:ab H a o a=O o:=by unfold ab;rw[aj J]
def au{o:HO}(h:b≠a):ab H a o b=H b:=by unfold ab;rw[ai h]
def jm{o u:HO}:ab (ab H a o) a u=ab H a u:=by funext b;unfold ab;split<;>rfl
def aY{o u:HO}(h:H a=O o)(h':H b=O u)(d:o≠u):a≠b:=by intro e;subst e;rw[h]at h';exact d<|cZ h'
def bv{o:HO}(h:H a=O o)(h':H b=U):a≠b:=by intro e;subst e;rw[h]at h';cases h'
section
variable (P:ò) (w:è)
def dM(H:Hp)(h:á)(a:À):HO->Prop
|.ae xs=>xs.length<=É/\c2 λ(aD:List Á)(n:Nat)=>aX xs aD/\h.get? a=O {cls:=.type "list",data:=.seq aD.toArray n}
|.be xs=>xs.length<=É/\∃aD:List Á,aX xs aD/\ŝ h a aD.toArray
|.dK ag=>ag.length<=É/\(a==Ĉ)=false/\∃vs,KV ag vs/\h.DictOf (eV P w) a vs
|.dT ag=>ag.length<=É/\(a==Ĉ)=false/\∃xs:List (List aL×À×Á),Paired (λ(p:List aL×V)(q:List aL×À×Á)=>p.1=q.1/\H q.2.1=O (.be<|p.1.map kV)/\bm p.2 q.2.2) ag xs/\c3 λo es ep=>h.get? a=O o/\o.ExactDict/\o.data=.dict es ep/\es.toList=xs.map (entryOfKey<|δ<|eV P w)/\(xs.map (·.1)).Nodup
|.set S n=>h.SetOf (intKind P w) a S n
|.aO C dx fs=>H dx=O (.own a)/\fs.length<=1000/\dx≠a/\h.get? a=O (Ş C dx)/\∃mA,h.Ns1 dx mA/\(∀f,gx (fs.lookup f)<|mA f)/\Ài mA (fs.map (·.1))
|.own _=>∃o,h.get? a=O o
|.xd fs=>∃mA,h.Ns1 a mA/\∀f,gx (fs.lookup f)<|mA f
|.Gn lo hi=>c3 λt u v=>h.get? a=O {cls:=.type "range",data:=.fields #[.int lo t,.int hi u,.int 1 v]}
|.cn o u=>h.get? a=O o/\dM H h a u
|.sK ps=>h.get? a=O {cls:=.none,data:=.fields ps}
|.Gm f x=>h.get? a=O (Àj (.ref f)<|.ref x)
|.ext φ=>φ h/\(∃o,h.get? a=O o)/\∀h1 h2:á,φ h1->(∀o,h1.get? a=O o->h2.get? a=O o)->φ h2
def dv(H:Hp)(h:á):Prop:=∀a o,H a=O o->dM P w H h a o
end
section
variable {o:HO}
def dM.lt(x:dM P w H h a o):a<h.objs.size:=by
 cases o with
 |ae xs=>obtain⟨_,_,_,_,e⟩:=x;exact cG e
 |be xs=>obtain⟨_,_,_,p⟩:=x;exact p.lt
 |dK ag|dT ag=>obtain⟨_,_,_,_,o,_,_,e,_⟩:=x;exact cG e
 |set S n=>obtain⟨o,_,_,_,e,_⟩:=x;exact cG e
 |aO C dx fs=>obtain⟨_,_,_,e,_⟩:=x;exact cG e
 |own y=>obtain⟨_,e⟩:=x;exact cG e
 |xd fs=>obtain⟨_,⟨_,_,_,e,_⟩,_⟩:=x;exact cG e
 |Gn lo hi=>obtain⟨_,_,_,e⟩:=x;exact cG e
 |cn ob u=>obtain⟨e,_⟩:=x;exact cG e
 |sK ps|Gm f y=>exact cG<|show h.get? a=O _ from x
 |ext φ=>obtain⟨_,⟨_,e⟩,_⟩:=x;exact cG e
theorem Paired.CH{α β:Type}{F G:α->β->Prop}:∀{c:List α}{d:List β},Paired F c d->(∀a b,F a b->G a b)->Paired G c d
|_,_,.nil=>λ_=>.nil
|_,_,.cons r t=>λf=>.cons (f _ _ r)<|Paired.CH t f
def dM.aT(x:dM P w H h a o)(k:∀b u,(b=a\/H b=O (.own a))->h.get? b=O u->h'.get? b=O u)(g:∀b,H b=O (.own a)->H' b=O (.own a)) (i:∀b xs,H b=O (.be xs)->H' b=O (.be xs)):dM P w H' h' a o:=by
 induction o with
 |ae xs=>obtain⟨z,aD,n,r,e⟩:=x;exact⟨z,aD,n,r,k _ _ (.inl J) e⟩
 |be xs=>obtain⟨z,aD,r,ob,e,c⟩:=x;exact⟨z,aD,r,ob,k _ _ (.inl J) e,c⟩
 |dK ag=>obtain⟨z,y,vs,r,ob,es,ep,e,c⟩:=x;exact⟨z,y,vs,r,ob,es,ep,k _ _ (.inl J) e,c⟩
 |dT ag=>obtain⟨z,y,xs,r,ob,es,ep,e,c⟩:=x;exact⟨z,y,xs,Paired.CH r λp q z=>⟨z.1,i _ _ z.2.1,z.2.2⟩,ob,es,ep,k _ _ (.inl J) e,c⟩
 |set S n=>obtain⟨ob,es,ep,t,e,c⟩:=x;exact⟨ob,es,ep,t,k _ _ (.inl J) e,c⟩
 |aO C dx fs=>obtain⟨d,z,ne,e,mA,⟨od,es,ep,e2,c⟩,r⟩:=x;exact⟨g _ d,z,ne,k _ _ (.inl J) e,mA,⟨od,es,ep,k _ _ (.inr d) e2,c⟩,r⟩
 |own y=>obtain⟨ob,e⟩:=x;exact⟨ob,k _ _ (.inl J) e⟩
 |xd fs=>obtain⟨mA,⟨od,es,ep,e,c⟩,r⟩:=x;exact⟨mA,⟨od,es,ep,k _ _ (.inl J) e,c⟩,r⟩
 |Gn lo hi=>obtain⟨t,u,v,e⟩:=x;exact⟨t,u,v,k _ _ (.inl J) e⟩
 |cn ob u j=>obtain⟨e,q⟩:=x;exact⟨k _ _ (.inl J) e,j q⟩
 |sK ps=>
  let e:h.get? a=O {cls:=.none,data:=.fields ps}:=x;exact k a _ (.inl J) e
 |Gm f y=>
  let e:h.get? a=O (Àj (.ref f) (.ref y)):=x;exact k a _ (.inl J) e
 |ext φ=>obtain⟨p,⟨o,e⟩,st⟩:=x;exact⟨st _ _ p λo q=>k _ _ (.inl J) q,⟨o,k _ _ (.inl J) e⟩,st⟩
def dv.lt(x:dv P w H h)(e:H a=O o):a<h.objs.size:=(x a o e).lt
def dv.fresh(x:dv P w H h)(e:h.objs.size<=a):H a=none:=by
 cases q:H a with
 |none=>rfl
 |some u=>exact absurd (ia (x.lt q) e)<|lW _
def dv.cy(x:dv P w H h)(k:∀b u,h.get? b=O u->h'.get? b=O u):dv P w H h':=λa o e=>(x a o e).aT (λb u _ q=>k b u q) (λ_ q=>q) λ_ _ q=>q
def dv.fH(x:dv P w H h)(k:∀b u,h.get? b=O u->h'.get? b=O u)(g:h.objs.size<=a)(new:dM P w (ab H a o) h' a o):dv P w (ab H a o) h':=λb u e=>by
 have d:=x.fresh g;by_cases f:b=a
 .subst f;rw[aq]at e;cases e;exact new
 .rw[au f]at e;exact(x b u e).aT (λc v _ q=>k c v q) (λc q=>by rw[au<|bv q d];exact q) λc xs q=>by rw[au<|bv q d];exact q
end
def Rd(H:Hp)(a:À)(u:HO):Prop:=H a=O u\/∃o,H a=O (.cn o u)
def Rd.ok{u:HO}(r:Rd H a u)(x:dv P w H h):dM P w H h a u:=by
 rcases r with r|⟨o,r⟩
 .exact x a u r
 .obtain⟨_,q⟩:=x a _ r;exact q
def qA:Option HO->Prop
|some (.ae _)|some (.dK _)|some (.dT _)|some (.set _ _)|some (.aO _ _ _)|some (.ext _)=>True
|_=>False
section
variable {x e:À}
def dv.mo(ok:dv P w H h)(a:qA (H x))(he:e=x\/H e=O (.own x))(k:∀b u,b≠e->h.get? b=O u->h'.get? b=O u)(l:∃u,h'.get? e=O u)(new:dM P w (ab H x o') h' x o'):dv P w (ab H x o') h':=λb u q=>by
 have i:∀c y,H c=O (.own y)->c≠x:=λc y r z=>by subst z;rw[r]at a;exact a
 have m:∀c xs,H c=O (.be xs)->c≠x:=λc xs r z=>by subst z;rw[r]at a;exact a
 by_cases d:b=x
 .subst d;rw[aq]at q;cases q;exact new
 .rw[au d]at q;by_cases f:b=e
  .let j:H b=O (.own x):=by
    rcases he with z|z
    .exact absurd (f.trans z) d
    .exact f▸z
   rw[q]at j;cases j;obtain⟨v,n⟩:=l;exact⟨v,f▸n⟩
  .refine(ok b u q).aT (λc v g r=>k c v ?_ r) (λc r=>by rw[au<|i c b r];exact r) λc xs r=>by rw[au<|m c xs r];exact r
   rcases g with rfl|g
   .exact f
   .intro rfl;rcases he with z|z
    .exact i c b g z
    .rw[g]at z;cases z;exact d J
end
structure Un(fs ex:List À)(H H':Hp)(h h':á):Prop where
 keep:∀b o,h.get? b=O o->H b=U->b∉fs->b∉ex->h'.get? b=O o
 slot:∀b o,h.get? b=O o->H b=U->b∈fs->b∉ex->∃sl,h'.get? b=O {o with slots:=sl}
 free:∀b o,h.get? b=O o->H b=U->b∉ex->H' b=U
 there:∀b o,h.get? b=O o->b∉ex->∃o',h'.get? b=O o'
 nY:∀b xs,H b=O (.be xs)->H' b=O (.be xs)
 lg:∀b o u,H b=O (.cn o u)->H' b=O (.cn o u)
 nZ:∀b ps,H b=O (.sK ps)->∃more,H' b=O (.sK (ps++more))
section
variable {fs:List À} {x e:À} {o:HO}
def Un.any(u:Un fs ex H H1 h h1){ob:Ó}(q:h.get? b=O ob)(n:H b=U)(a:b∉ex):∃sl,h1.get? b=O {ob with slots:=sl}:=by
 by_cases c:b∈fs
 .exact u.slot b ob q n c a
 .exact⟨ob.slots,u.keep b ob q n c a⟩
def Un.cy(k:∀b u,h.get? b=O u->h'.get? b=O u):Un fs ex H H h h':=⟨λb ob q _ _ _=>k b ob q,λb ob q _ _ _=>⟨ob.slots,k b ob q⟩,λ_ _ _ n _=>n,λb ob q _=>⟨ob,k b ob q⟩,λ_ _ q=>q,λ_ _ _ q=>q,λ_ ps q=>⟨#[],by rw[q];simp⟩⟩
def Un.refl:Un fs ex H H h h:=Un.cy λ_ _ q=>q
def Un.fH(k:∀b u,h.get? b=O u->h'.get? b=O u)(d:h.objs.size<=a)(c:H a=U):Un fs ex H (ab H a o) h h' where
 keep:=λb u q _ _ _=>k b u q
 slot:=λb u q _ _ _=>⟨u.slots,k b u q⟩
 free:=λb u q n _=>by rw[au<|gm<|ia (cG q) d];exact n
 there:=λb u q _=>⟨u,k b u q⟩
 nY:=λb xs q=>by rw[au<|bv q c];exact q
 lg:=λb u xs q=>by rw[au<|bv q c];exact q
 nZ:=λb ps q=>⟨#[],by rw[au<|bv q c,q];simp⟩
def Un.mo(a:qA (H x))(he:e=x\/H e=O (.own x))(k:∀b u,b≠e->h.get? b=O u->h'.get? b=O u)(i:∃u,h'.get? e=O u):Un fs ex H (ab H x o) h h':=by
 have d:∀b,H b=U->b≠x:=λb n z=>by subst z;rw[n]at a;exact a
 have f:∀b,H b=U->b≠e:=λb n z=>by
  subst z;rcases he with r|r
  .exact d b n r
  .rw[n]at r;cases r
 have c:∀b u,H b=O u->¬qA (O u)->b≠x:=λb u q nm z=>by subst z;rw[q]at a;exact nm a
 refine⟨λb u q n _ _=>k b u (f b n) q,λb u q n _ _=>⟨u.slots,k b u (f b n) q⟩,λb u q n _=>by rw[au<|d b n];exact n,λb u q _=>?_,λb xs q=>by rw[au<|c b _ q λz=>z];exact q,λb u xs q=>by rw[au<|c b _ q λz=>z];exact q,λb ps q=>⟨#[],by rw[au<|c b _ q λz=>z,q];simp⟩⟩;by_cases g:b=e
 .subst g;exact i
 .exact⟨u,k b u g q⟩
end
def BG(h:á)(H:Hp):List Addr:=(ø h.objs.size).filter λa=>(H a).isSome
def n0(h:á)(H:Hp):Heap:=PySem.W.hideAll h<|BG h H
def QN(h:á)(H:Hp):(n0 h H).objs.size=h.objs.size:=PySem.W.hideAll_size _ _
def QO{o:Ó}(e:h.get? b=O o)(n:H b=U):(n0 h H).get? b=O o:=PySem.W.hideAll_get _ e λa=>by let q:(H b).isSome=true:=(r_.mp a).2;rw[n]at q;simp at q
def QP{o:Ó}(e:(n0 h H).get? b=O o):h.get? b=O o/\H b=none:=by
 have a:h.get? b=O o:=PySem.W.of_hideAll (BG h H) e;refine⟨a,?_⟩;cases q:H b with
 |none=>rfl
 |some x=>have c:b∈BG h H:=r_.mpr ⟨FN.mpr<|cG a,by simp[q]⟩;have z:(n0 h H).get? b=none:=PySem.W.hideAll_none (BG h H) c;rw[z]at e;cases e
structure Mod(K:Ñ)(mg:Ã->Option Á)(base:á):Prop where
 vp:K.In base
 n6:base.Ns î mg
 vq:∃mb,base.Ns Áa mb/\∀x:Ã,x≠"__name__"->mb x=ź x
 nolimit:base.NoLimit
set_option genInjectivity false in
structure Cx where
 prog:ò
 w:è
 K:Ñ
 mg:Ã->Option Á
 base:á
 A:ń
 N:List Ã
 gW:Ì
 sP:Hp
 ah:Ă
 b0:List Ă
 stack:List Ă
 ex:List À
 fn:Ã->Bool
 gf:Bool
 pn:List (À×Ó)
 xe:Á->Ì->Prop
def kS(l:List Ă):List Addr:=l.filterMap (·.frame)
abbrev Cx.fs(X:Cx):List Addr:=kS X.b0
def vt(sc:Ō)(x:Ã):Prop:=sc.names.lookup x=O .local\/sc.names.lookup x=O .cell\/sc.names.lookup x=O .free
def sQ(sc:Ō)(x:Ã):Prop:=sc.names.lookup x=O .local\/sc.names.lookup x=O .cell
def QQ(ah:Ă)(h:á)(m:Ã->Option Á)(x:Ã)(u:Á):Prop:=(ah.kindOf x=O .local/\m x=O u)\/((ah.kindOf x=O .cell\/ah.kindOf x=O .free)/\∃c,ah.cells.lookup x=O c/\h.IsCell c (O u))
structure Cx.Ok(X:Cx):Prop where
 mod:Mod X.K X.mg X.base
 kind:X.ah.scope.kind=.function
 n6:X.ah.globals=î
 vq:X.ah.builtins=Áa
 above:X.gW.heap.objs.size<=X.ah.locals
 inj:∀x y c,X.ah.cells.lookup x=O c->X.ah.cells.lookup y=O c->x=y
 has:∀x,(X.ah.kindOf x=O .cell\/X.ah.kindOf x=O .free)->∃c,X.ah.cells.lookup x=O c
 xR:∀x c,X.fn x=true->X.ah.cells.lookup x=O c->X.gW.heap.objs.size<=c
 hd:X.gf=true->X.A.handled=U
 frames:X.A.frames=O X.stack
 BH:X.stack=X.b0\/(X.stack=X.ah::X.b0/\X.ah.frame=O X.ah.locals)
 BI:∀b∈X.ex,b≠X.ah.locals/\∀x c,X.ah.cells.lookup x=O c->c≠b
 bs:∀b o,X.base.get? b=O o->X.gW.heap.get? b=O o/\X.sP b=U
 pp:X.base.objs.size<=X.gW.heap.objs.size
 wb:∀b o,X.base.get? b=O o->b∉X.ex
 wc:∀b∈X.ex,b∉X.fs
 j9:X.gW.heap.FunFrames X.base X.b0
 sR:∀b∈X.fs,X.sP b=U
structure ay(X:Cx)(pins:List (À×Ó))(z:List (Option V))(H:Hp)(s:Ì):Prop where
 ok:X.Ok
 os:s.os=X.gW.os
 fI:Ż s.gens
 base:Un X.fs X.ex X.sP H X.gW.heap s.heap
 iD:∃m,s.heap.Ns X.ah.locals m/\∀(i:Nat)(x:Ã)(v:V),X.N[i]?=O x->z[i]?=O (O v)->vt X.ah.scope x->∃u,bm v u/\QQ X.ah s.heap m x u
 cell:∀x c,X.ah.cells.lookup x=O c->∃v,s.heap.IsCell c v
 free:H X.ah.locals=U
 jH:∀x c,X.ah.cells.lookup x=O c->H c=U
 j4:∀p∈X.pn++pins,s.heap.get? p.1=O p.2/\H p.1=U/\p.1≠X.ah.locals/\p.1∉X.fs/\∀v,p.2.data≠.cell v
 aF:dv X.prog X.w H s.heap
 len:z.length=X.N.length
section
variable {z:List (Option V)}
def Cx.Ok.QR(ok:X.Ok){o:Ó}(e:X.base.get? b=O o):b∉X.fs:=λa=>by let:=(ok.j9.mem a).1;rw[e]at this;cases this
def ay.bs(I:ay X pins z H s):∀b o,X.base.get? b=O o->s.heap.get? b=O o/\H b=none:=λb o e=>⟨I.base.keep b o (I.ok.bs b o e).1 (I.ok.bs b o e).2 (I.ok.QR e)<|I.ok.wb b o e,I.base.free b o (I.ok.bs b o e).1 (I.ok.bs b o e).2<|I.ok.wb b o e⟩
def ay.bk(I:ay X pins z H s):∀b o,X.base.get? b=O o->s.heap.get? b=O o:=λb o e=>(I.bs b o e).1
def ay.mod(I:ay X pins z H s):Mod X.K X.mg X.base:=I.ok.mod
def ay.iE(I:ay X pins z H s):X.K.In s.heap:=I.ok.mod.vp.keeps I.bk
def ay.lt(I:ay X pins z H s):X.ah.locals<s.heap.objs.size:=let⟨_,a,_⟩:=I.iD;a.lt
def ay.sz(I:ay X pins z H s):X.gW.heap.objs.size<=s.heap.objs.size:=d5 I.ok.above<|Óh I.lt
def ay.QS(I:ay X pins z H s)(h:s.heap.objs.size<=a):a∉X.fs:=λb=>by obtain⟨_,o,c,_⟩:=I.ok.j9.mem b;exact absurd (ia (cG c)<|d5 I.sz h)<|lW _
def ay.sS(I:ay X pins z H s):∀x c,X.ah.cells.lookup x=O c->c≠X.ah.locals:=λx c e F=>by obtain⟨v,o,a,hd⟩:=I.cell x c e;obtain⟨m,⟨o',es,ep,b,d,_⟩,_⟩:=I.iD;rw[F,b]at a;cases a;rw[d]at hd;cases hd
def ay.j9(I:ay X pins z H s):s.heap.FunFrames X.base X.b0:=by
 let all:∀(l:List Ă),(∀b∈kS l,b∈X.fs)->X.gW.heap.FunFrames X.base l->s.heap.FunFrames X.base l:=by
  intro l;induction l with
  |nil=>intro _ _;trivial
  |cons ah r g=>
   intro f h;obtain⟨hk,⟨L,o,a,i,j,hd⟩,k⟩:=h;let c:L∈X.fs:=f L (by unfold kS;rw[List.filterMap_cons,a];exact List.mem_cons_self);obtain⟨sl,e⟩:=I.base.slot L o j (I.ok.sR L c) c λF=>I.ok.wc L F c;exact⟨hk,⟨L,_,a,i,e,hd⟩,g (λb d=>f b (by unfold kS;rw[List.filterMap_cons,a];exact List.mem_cons_of_mem _ d)) k⟩
 exact all X.b0 (λ_ d=>d) I.ok.j9
def ay.stack(I:ay X pins z H s):s.heap.FunFrames X.base X.stack:=by
 rcases I.ok.BH with e|⟨e,hf⟩
 .rw[e];exact I.j9
 .rw[e];obtain⟨m,a,_⟩:=I.iD;refine .cons (by rw[I.ok.kind];decide) hf a ?_ I.j9;exact Heap.get?_none_of_le<|d5 I.ok.pp I.ok.above
def ay.CI(I:ay X pins z H s):∀b∈kS X.stack,b∈X.ah.locals::X.fs:=λb a=>by
 rcases I.ok.BH with e|⟨e,hf⟩
 .rw[e]at a;exact f8 _ a
 .rw[e]at a;unfold kS at a;rw[FO,hf]at a;exact a
def ay.HI(I:ay X pins z H s):∀b∈kS X.stack,H b=none:=λb a=>by
 rcases a_.mp (I.CI b a)with e|a
 .exact e▸I.free
 .obtain⟨_,o,c,_⟩:=I.ok.j9.mem a;exact I.base.free b o c (I.ok.sR b a) λF=>I.ok.wc b F a
def ay.step(I:ay X pins z H s)(j:∀b∈ch,(b∈X.ex\/X.gW.heap.objs.size<=b)/\b≠X.ah.locals/\(∀x c,X.ah.cells.lookup x=O c->c≠b)/\∀p∈X.pn++pins,p.1≠b)(keep:∀b o,b≠X.ah.locals->b∉X.fs->b∉ch->s.heap.get? b=O o->H b=U->h'.get? b=O o)(slot:∀b o,b≠X.ah.locals->b∈X.fs->b∉ch->s.heap.get? b=O o->H b=U->∃sl,h'.get? b=O {o with slots:=sl}) (free:∀b o,b∉ch->s.heap.get? b=O o->H b=U->H' b=U)(there:∀b o,b∉ch->s.heap.get? b=O o->∃o',h'.get? b=O o')(nY:∀b xs,H b=O (.be xs)->H' b=O (.be xs)) (lg:∀b o u,H b=O (.cn o u)->H' b=O (.cn o u)) (nZ:∀b ps,H b=O (.sK ps)->∃more,H' b=O (.sK (ps++more)))(ns:∀m,s.heap.Ns X.ah.locals m->h'.Ns X.ah.locals m) (aF:dv X.prog X.w H' h') (D:Ż g'):ay X pins z H' {s with heap:=h',gens:=g',drawn:=d',toks:=t'}:=by
 let y:∀b o,X.gW.heap.get? b=O o->b≠X.ah.locals:=λb o e=>gm<|ia (cG e) I.ok.above;let w:∀b o,X.gW.heap.get? b=O o->b∉X.ex->b∉ch:=λb o e a g=>by
  rcases(j b g).1 with a1|a1
  .exact a a1
  .exact absurd (ia (cG e) a1)<|lW _
 let cellK:∀x c,X.ah.cells.lookup x=O c->∀v,s.heap.IsCell c v->h'.IsCell c v:=λx c e v ⟨o,h,hd⟩=>by
  let t:c∉ch:=λa1=>(j c a1).2.2.1 x c e J;by_cases A:c∈X.fs
  .obtain⟨sl,q⟩:=slot c o (I.sS x c e) A t h<|I.jH x c e;exact⟨_,q,hd⟩
  .exact⟨o,keep c o (I.sS x c e) A t h<|I.jH x c e,hd⟩
 refine⟨I.ok,I.os,D,⟨λb o e n g a=>?_,λb o e n g a=>?_,λb o e n a=>?_,λb o e a=>?_,λb xs e=>nY b xs<|I.base.nY b xs e,λb o xs e=>lg b o xs<|I.base.lg b o xs e,λb ps e=>?_⟩,?_,λx c e=>?_,?_,λx c e=>?_,λp B=>?_,aF,I.len⟩
 .exact keep b o (y b o e) g (w b o e a) (I.base.keep b o e n g a)<|I.base.free b o e n a
 .obtain⟨sl,f⟩:=I.base.slot b o e n g a;obtain⟨E,e2⟩:=slot b _ (y b o e) g (w b o e a) f<|I.base.free b o e n a;exact⟨E,e2⟩
 .obtain⟨o',f⟩:=I.base.there b o e a;exact free b o' (w b o e a) f<|I.base.free b o e n a
 .obtain⟨o',f⟩:=I.base.there b o e a;exact there b o' (w b o e a) f
 .obtain⟨m1,f⟩:=I.base.nZ b ps e;obtain⟨m2,e2⟩:=nZ b _ f;exact⟨m1++m2,by rw[e2,Array.append_assoc]⟩
 .obtain⟨m,F,G⟩:=I.iD;refine⟨m,ns m F,λi x v f e2 a0=>?_⟩;obtain⟨u,r,l⟩:=G i x v f e2 a0;refine⟨u,r,?_⟩;rcases l with l|⟨k,c,e,a1⟩
  .exact .inl l
  .exact .inr ⟨k,c,e,cellK x c e _ a1⟩
 .obtain⟨v,a1⟩:=I.cell x c e;exact⟨v,cellK x c e v a1⟩
 .obtain⟨m,⟨o,_,_,h,_⟩,_⟩:=I.iD;exact free _ o (λa1=>(j _ a1).2.1 J) h I.free
 .obtain⟨v,o,h,hd⟩:=I.cell x c e;exact free c o (λa1=>(j c a1).2.2.1 x c e J) h<|I.jH x c e
 .obtain⟨e,n,ne,C,d⟩:=I.j4 p B;let t:p.1∉ch:=λa1=>(j p.1 a1).2.2.2 p B J;exact⟨keep p.1 p.2 ne C t e n,free p.1 p.2 t e n,ne,C,d⟩
def ay.un(I:ay X pins z H s)(u:Un X.fs [] H H' s.heap h')(aF:dv X.prog X.w H' h'):ay X pins z H' {s with heap:=h',toks:=t'}:=by
 obtain⟨m,⟨o,es,ep,c,r⟩,_⟩:=id I.iD;obtain⟨sl,f⟩:=u.any c I.free Gc;exact I.step (ch:=[]) (λ_ F=>nomatch F) (λb o _ a _ e n=>u.keep b o e n a Gc) (λb o _ a _ e n=>u.slot b o e n a Gc) (λb o _ e n=>u.free b o e n Gc) (λb o _ e=>u.there b o e Gc) u.nY u.lg u.nZ (λk g=>by obtain⟨o',h,i,d,j⟩:=g;rw[c]at d;cases d;exact⟨_,h,i,f,j⟩) aF I.fI
def ay.call(I:ay X pins z H s)(u:Un (kS X.stack) ch H H' s.heap h')(aF:dv X.prog X.w H' h')(i:Ż g')(f:∀b∈ch,(b∈X.ex\/X.gW.heap.objs.size<=b)/\b≠X.ah.locals/\(∀x c,X.ah.cells.lookup x=O c->c≠b)/\∀p∈X.pn++pins,p.1≠b):ay X pins z H' {s with heap:=h',gens:=g',drawn:=d',toks:=t'}:=by
 obtain⟨m,⟨o,es,ep,g,r⟩,_⟩:=id I.iD;obtain⟨sl,d⟩:=u.any g I.free λF=>(f _ F).2.1 J;exact I.step f (λb o d j a e n=>u.keep b o e n (λF=>(a_.mp<|I.CI b F).elim d j) a) (λb o _ _ a e n=>u.any e n a) (λb o a e n=>u.free b o e n a) (λb o a e=>u.there b o e a) u.nY u.lg u.nZ (λv k=>by
  obtain⟨o',l,q,h,t⟩:=k;rw[g]at h;cases h;exact⟨_,l,q,d,t⟩) aF i
def ay.fJ(I:ay X pins z H s)(k:∀b o,b≠it->s.heap.get? b=O o->h'.get? b=O o)(g:H it=U)(d:it≠X.ah.locals)(h1:it∈X.ex\/X.gW.heap.objs.size<=it) (h2:∀x c,X.ah.cells.lookup x=O c->c≠it) (h:∀p∈X.pn++pins,p.1≠it):ay X pins z H {s with heap:=h',toks:=t'}:=by
 have f:∀b u,H b=O u->b≠it:=λb u e F=>by rw[F,g]at e;cases e
 refine I.step (ch:=[it]) (λb i=>?_) (λb o _ _ a e _=>k b o (λF=>a (by simp[F])) e) (λb o _ _ a e _=>⟨o.slots,k b o (λF=>a (by simp[F])) e⟩) (λ_ _ _ _ n=>n)
  (λb o a e=>⟨o,k b o (λF=>a (by simp[F])) e⟩) (λ_ _ e=>e) (λ_ _ _ e=>e) (λb ps e=>⟨#[],by rw[e];simp⟩) (λm j=>?_) (λb u e=>?_) I.fI
 .have e:b=it:=by simpa using i
  subst e;exact⟨h1,d,h2,h⟩
 .obtain⟨o,es,ep,l,r⟩:=j;exact⟨o,es,ep,k _ o (cB d) l,r⟩
 .refine(I.aF b u e).aT (λc v a q=>k c v ?_ q) (λ_ q=>q) λ_ _ q=>q;rcases a with F|F
  .exact F▸f b u e
  .exact f c _ F
def ay.cN(I:ay X pins z H s)(t:Nat):ay X pins z H {s with toks:=t}:=I.un Un.refl I.aF
def ay.cy(I:ay X pins z H s)(k:∀b u,s.heap.get? b=O u->h'.get? b=O u):ay X pins z H {s with heap:=h',toks:=t'}:=I.un (Un.cy k)<|I.aF.cy k
def ay.fH{o:HO}(I:ay X pins z H s)(k:∀b u,s.heap.get? b=O u->h'.get? b=O u)(c:s.heap.objs.size<=a)(new:dM X.prog X.w (ab H a o) h' a o):ay X pins z (ab H a o) {s with heap:=h',toks:=t'}:=I.un (Un.fH k c<|I.aF.fresh c)<|I.aF.fH k c new
def ay.mo{x e:À}{o:HO}(I:ay X pins z H s)(a:qA (H x))(he:e=x\/H e=O (.own x))(k:∀b u,b≠e->s.heap.get? b=O u->h'.get? b=O u)(c:∃u,h'.get? e=O u)(new:dM X.prog X.w (ab H x o) h' x o):ay X pins z (ab H x o) {s with heap:=h',toks:=t'}:=I.un (Un.mo a he k c)<|I.aF.mo a he k c new
def ay.weak{a:List (Option V)}(I:ay X pins z H s)(b:a.length=z.length)(w:∀(i:Nat) v,a[i]?=O (O v)->z[i]?=O (O v)):ay X pins a H s:=⟨I.ok,I.os,I.fI,I.base,let⟨m,c,d⟩:=I.iD;⟨m,c,λi x v e e2 f=>d i x v e (w i v e2) f⟩,I.cell,I.free,I.jH,I.j4,I.aF,b.trans I.len⟩
def ay.HJ{a:List (À×Ó)}(I:ay X pins z H s)(h:∀p∈a,s.heap.get? p.1=O p.2/\H p.1=U/\p.1≠X.ah.locals/\p.1∉X.fs/\∀v,p.2.data≠.cell v):ay X a z H s:=⟨I.ok,I.os,I.fI,I.base,I.iD,I.cell,I.free,I.jH,λp b=>(d6.mp b).elim (λF=>I.j4 p<|Ói _ F)<|h p,I.aF,I.len⟩
def CJ(c:N.Nodup)(a:N[i]?=O x)(b:N[j]?=O x):i=j:=by obtain⟨h1,d⟩:=b9.mp a;obtain⟨h2,e2⟩:=b9.mp b;exact(Åc c).mp<|d.trans e2.symm
def HL{Q:Unit->Ì->Prop}(I:ay X pins z H s)(T:X.N.Nodup)(hi:X.N[i]?=O x)(t:sQ X.ah.scope x)(r:bm v u)(h:∀s',ay X pins (z.set i (O v)) H s'->(∃a,Ĩ a s.heap s'.heap/\(a=X.ah.locals\/X.ah.cells.lookup x=O a))->Q () s') (hf:X.fn x=true\/X.ah.scope.names.lookup x=O .local:=by first|exact .inl rfl|exact .inr rfl|assumption):Ç M A (Áb X.ah x u) Q E s:=by
 have⟨m,F,a1⟩:=id I.iD;have QT:(X.ah.scope.kind==.class||(X.ah.scope.kind==.module&&X.ah.locals !=X.ah.globals))=false:=by rw[I.ok.kind];rfl
 have V:i<z.length:=I.len▸(b9.mp hi).1;have sS:=I.sS;have tracked:∀{a:À}{h':á},(∃o,s.heap.get? a=O o/\H a=U)->Ĩ a s.heap h'->dv X.prog X.w H h':=λ{a h'} ha f b ob e=>by
  obtain⟨_,_,W⟩:=ha;refine(I.aF b ob e).aT (λc C l q=>(f.2 c ?_).trans q) (λ_ q=>q) λ_ _ q=>q;intro rfl;rcases l with rfl|l
  .rw[W]at e;cases e
  .rw[W]at l;cases l
 refine Or.elim (t) (λhk=>?_) λhk=>?_
 .refine wpAny_storeName_local hk F (λh' G f=>?_) QT;obtain⟨oL,_,_,a2,_⟩:=id F;refine h _ ⟨I.ok,I.os,I.fI,⟨λb o e n w t=>?_,λb o e n w t=>?_,I.base.free,λb o e t=>?_,I.base.nY,I.base.lg,I.base.nZ⟩,⟨_,G,λj y K g e2 L=>?_⟩,λy c e=>?_,I.free,I.jH,λp N=>?_,tracked ⟨oL,a2,I.free⟩ f,by simpa using I.len⟩ ⟨_,f,.inl J⟩
  .exact(f.2 b<|gm<|ia (cG e) I.ok.above).trans<|I.base.keep b o e n w t
  .have⟨sl,g⟩:=I.base.slot b o e n w t;exact⟨sl,(f.2 b<|gm<|ia (cG e) I.ok.above).trans g⟩
  .obtain⟨o',g⟩:=I.base.there b o e t;exact⟨o',(f.2 b<|gm<|ia (cG e) I.ok.above).trans g⟩
  .by_cases B:j=i
   .subst B;rw[hi]at g;cases g;rw[Ój V]at e2;cases e2;exact⟨u,r,.inl ⟨hk,Gc⟩⟩
   .rw[Ôa<|cB B]at e2;obtain⟨a0,P,q⟩:=a1 j y K g e2 L;refine⟨a0,P,?_⟩;rcases q with⟨k,e⟩|⟨k,c,e,a4⟩
    .refine .inl ⟨k,?_⟩;have:y≠x:=λe=>B<|CJ T g (e▸hi);simp[this,e]
    .exact .inr ⟨k,c,e,a4.sameBut f<|sS y c e⟩
  .have⟨C,a4⟩:=I.cell y c e;exact⟨C,a4.sameBut f<|sS y c e⟩
  .have⟨e,n,ne,R,d⟩:=I.j4 p N;exact⟨(f.2 p.1 ne).trans e,n,ne,R,d⟩
 .let S:X.fn x=true:=by
   rcases hf with a4|a4
   .exact a4
   .rw[a4]at hk;cases hk
  obtain⟨c,l⟩:=I.ok.has x<|.inl hk;have⟨C,a4⟩:=I.cell x c l;refine wpAny_storeName_cell I.ok.kind hk l a4 λh' Y f=>?_;have⟨oc,a3,QU⟩:=id a4;refine h {s with heap:=h'} ⟨I.ok,I.os,I.fI,⟨λb o e n w t=>?_,λb o e n w t=>?_,I.base.free,λb o e t=>?_,I.base.nY,I.base.lg,I.base.nZ⟩,⟨m,F.sameBut f<|cB<|sS x c l,λj y K g e2 L=>?_⟩,λy D e=>?_,I.free,I.jH,λp N=>?_,tracked ⟨oc,a3,I.jH x c l⟩ f,by simpa using I.len⟩ ⟨c,f,.inr l⟩
  .exact(f.2 b<|gm<|ia (cG e)<|I.ok.xR x c S l).trans<|I.base.keep b o e n w t
  .have⟨sl,g⟩:=I.base.slot b o e n w t;exact⟨sl,(f.2 b<|gm<|ia (cG e)<|I.ok.xR x c S l).trans g⟩
  .have⟨o',g⟩:=I.base.there b o e t;exact⟨o',(f.2 b<|gm<|ia (cG e)<|I.ok.xR x c S l).trans g⟩
  .by_cases B:j=i
   .subst B;rw[hi]at g;cases g;rw[Ój V]at e2;cases e2;exact⟨u,r,.inr ⟨.inl hk,c,l,Y⟩⟩
   .rw[Ôa<|cB B]at e2;obtain⟨a0,P,q⟩:=a1 j y K g e2 L;refine⟨a0,P,?_⟩;rcases q with q|⟨k,D,e,z'⟩
    .exact .inl q
    .refine .inr ⟨k,D,e,z'.sameBut f ?_⟩;intro rfl;exact B<|CJ T g<|I.ok.inj _ _ _ e l▸hi
  .by_cases O7:D=c
   .subst O7;exact⟨_,Y⟩
   .have⟨w2,z2⟩:=I.cell y D e;exact⟨w2,z2.sameBut f O7⟩
  .have⟨e,n,ne,R,d⟩:=I.j4 p N;refine⟨(f.2 p.1 ?_).trans e,n,ne,R,d⟩;intro q;rw[q,a3]at e;have q':oc=p.2:=cZ e;exact d C (q'▸QU)
def CK{Q:Unit->Ì->Prop}(I:ay X pins z H s)(a:X.N.Nodup)(hi:X.N[i]?=O x)(b:sQ X.ah.scope x)(r:bm v u)(h:∀s',ay X pins (z.set i (O v)) H s'->Q () s') (c:X.fn x=true\/X.ah.scope.names.lookup x=O .local:=by first|exact .inl rfl|exact .inr rfl|assumption):Ç M A (Áb X.ah x u) Q E s:=HL I a hi b r (λs' d _=>h s' d) c
def ay.QV(I:ay X pins z H s)(a:s'.os=s.os)(u:Un (kS X.stack) ch H H' s.heap s'.heap)(aF:dv X.prog X.w H' s'.heap)(d:Ż s'.gens)(f:∀b∈ch,(b∈X.ex\/X.gW.heap.objs.size<=b)/\b≠X.ah.locals/\(∀x c,X.ah.cells.lookup x=O c->c≠b)/\∀p∈X.pn++pins,p.1≠b):ay X pins z H' s':=by
 obtain⟨h',g,h,t',o'⟩:=s';have e:o'=s.os:=a;subst e;exact I.call u aF d f
end
abbrev XK:=Á->Option À->Hp->Prop
abbrev St:=List<|Option V
abbrev VK:=V->Hp->Prop
abbrev TE:=St->Hp->VK->Prop
abbrev TT:=St->Hp->(Bool->Hp->Prop)->Prop
abbrev TA:=St->Hp->(List V->Hp->Prop)->Prop
structure iS where
 nx:St->Hp->Prop
 rt:VK
 bk:St->Hp->Prop:=λ_ _=>False
 ct:St->Hp->Prop:=λ_ _=>False
abbrev TS:=iS->St->Hp->Prop
inductive EP(X:Cx)(pins:List (À×Ó))(z:St)(Q:VK)(u:Á)(s':Ì):Prop|m(v H':_)(_:ay X pins z H' s')(_:bm v u)(_:Q v H')
inductive TP(X:Cx)(pins:List (À×Ó))(z:St)(Q:Bool->Hp->Prop)(b:Bool)(s':Ì):Prop|m(H':_)(_:ay X pins z H' s')(_:Q b H')
inductive AP(X:Cx)(pins:List (À×Ó))(z:St)(Q:List V->Hp->Prop)(us:List Á)(s':Ì):Prop|m(vs H':_)(_:ay X pins z H' s')(_:aX vs us)(_:Q vs H')
def SP(X:Cx)(pins:List (À×Ó))(D:iS)(f:Flow)(s':Ì):Prop:=match f with
 |.next=>c2 λσ' H'=>ay X pins σ' H' s'/\D.nx σ' H'
 |.brk=>c2 λσ' H'=>ay X pins σ' H' s'/\D.bk σ' H'
 |.cont=>c2 λσ' H'=>ay X pins σ' H' s'/\D.ct σ' H'
 |.ret u=>c3 λv σ' H'=>ay X pins σ' H' s'/\bm v u/\D.rt v H'
def PE(X:Cx)(e:â)(t:TE):Prop:=∀pins s z H Q,ay X pins z H s->t z H Q->Ç (Í X.prog X.w) X.A (Ï e X.ah) (EP X pins z Q) X.xe s
def PT(X:Cx)(e:â)(t:TT):Prop:=∀pins s z H Q,ay X pins z H s->t z H Q->Ç (Í X.prog X.w) X.A (ε e X.ah<|Ï e X.ah) (TP X pins z Q) X.xe s
def PW(X:Cx)(e:â)(t:TT):Prop:=∀whole pins s z H Q,ay X pins z H s->t z H Q->Ç (Í X.prog X.w) X.A (ε e X.ah whole) (TP X pins z Q) X.xe s
def PW.pt(h:PW X e t):PT X e t:=h _
def PA(X:Cx)(es:List â)(t:TA):Prop:=∀(pos:Pos)(pins:List (À×Ó)) s z H Q,ay X pins z H s->t z H Q->Ç (Í X.prog X.w) X.A (spliced<|æ pos<|Ð es X.ah) (AP X pins z Q) X.xe s
def PS(X:Cx)(st:Đ)(t:TS):Prop:=∀(pins:List (À×Ó)) s z H D,ay X pins z H s->t D z H->Ç (Í X.prog X.w) X.A (exec st X.ah) (SP X pins D) X.xe s
def iF(X:Cx)(st:List Đ)(t:TS):Prop:=∀(pins:List (À×Ó)) s z H D,ay X pins z H s->t D z H->Ç (Í X.prog X.w) X.A (execs st X.ah) (SP X pins D) X.xe s
def aM{Q b:α->Ì->Prop}(h:Ç M A t Q E s)(c:∀a s,Q a s->b a s):Ç M A t b E s:=iZ h c λ_ _ x=>x
section
def dD(i:Nat)(z:St)(H:Hp)(Q:VK):Prop:=match z[i]? with|.some (.some v)=>Q v H|_=>False
theorem cc{i}{z:St}{H Q}(h:dD i z H Q):∃v,z[i]?=O (O v)/\Q v H:=by
 unfold dD at h;split at h
 .exact⟨_,‹_›,h⟩
 .cases h
theorem ck{i v}{z:St}{H Q}(e:z[i]?=O (O v))(h:Q v H):dD i z H Q:=by unfold dD;rw[e];exact h
def bd(F:Bool->Prop)(x:V):Prop:=match x with|.bl c=>F c|_=>False
def bt(F:À->Prop)(x:V):Prop:=match x with|.ref a=>F a|_=>False
def b6(F:Int->Prop)(x:V):Prop:=match x with|.int a=>F a|_=>False
theorem bf{F x}(h:bd F x):∃c,x=.bl c/\F c:=by cases x<;>first|exact⟨_,rfl,h⟩|cases h
theorem bX{F x}(h:bt F x):∃c,x=.ref c/\F c:=by cases x<;>first|exact⟨_,rfl,h⟩|cases h
theorem bY{F x}(h:b6 F x):∃c,x=.int c/\F c:=by cases x<;>first|exact⟨_,rfl,h⟩|cases h
def tC(v:V):TE:=λ_ H Q=>Q v H
def QW(d:X.N[i]?=O x)(f:vt X.ah.scope x)(hd:(x==("__debug__":Ã))=false:=by decide)(g:(x==("__classdict__":Ã))=false:=by decide):PE X (.Name x pos) (dD i):=λpins s z H Q I h=>by
 obtain⟨v,e,h⟩:=cc h;have⟨m,j,k⟩:=I.iD;obtain⟨u,r,l⟩:=k i x v d e f;let fin:EP X pins z Q u s:=⟨v,H,I,r,h⟩;rcases l with⟨hk,hm⟩|⟨hk,c,a,b⟩
 .exact Ác (Åd I.ok.kind hk j hm fin) hd
 .rcases hk with hk|hk
  .exact Ác (Åe I.ok.kind hk a b fin) hd
  .exact Ác (wpAny_loadName_free I.ok.kind hk a b fin g) hd
def aG{i j pos}:PE X (.Constant (.int i) j pos) (tC (.int i)):=λ_ _ _ H _ I h=>wpAny_Constant_int ⟨.int i,H,I.cN _,⟨_,J⟩,h⟩
def fK{b j pos}:PE X (.Constant (.bool b) j pos) (tC (.bl b)):=λ_ _ _ H _ I h=>Constant_bool ⟨.bl b,H,I,J,h⟩
def cH{j pos}:PE X (.Constant .none j pos) (tC .aQ):=λ_ _ _ H _ I h=>Constant_none ⟨.aQ,H,I,J,h⟩
def cz{x j pos}:PE X (.Constant (.str x) j pos) (tC (.str x)):=λ_ _ _ H _ I h=>Calls.Constant_str ⟨.str x,H,I.cN _,⟨_,J⟩,h⟩
def Gl(X:Cx)(x:Ã):Prop:=X.ah.kindOf x=O .globalImplicit
def yX(I:ay X pins z H s)(a:Gl X x)(b:X.mg x=O u)(h:Q u s)(hd:(x==("__debug__":Ã))=false:=by decide):Ç (Í X.prog X.w) X.A (Ï (.Name x pos) X.ah) Q E s:=aeV I.ok.kind a (Calls.loadGlobal_global (I.ok.n6▸I.mod.n6.keeps I.bk) b h) hd
def n8(I:ay X pins z H s)(a:Gl X x)(b:X.mg x=U)(c:ź x=O u)(h:Q u s)(d:x≠"__name__":=by decide) (hd:(x==("__debug__":Ã))=false:=by decide):Ç (Í X.prog X.w) X.A (Ï (.Name x pos) X.ah) Q E s:=by
 obtain⟨e,h1,h2⟩:=I.mod.vq;exact aeV I.ok.kind a (Calls.loadGlobal_builtin (I.ok.n6▸I.mod.n6.keeps I.bk) b (I.ok.vq▸h1.keeps I.bk) ((h2 x d).trans c) h) hd
def QX(a:Gl X x)(b:X.mg x=O u)(r:bm v u)(hd:(x==("__debug__":Ã))=false:=by decide):PE X (.Name x pos) (tC v):=λ_ _ _ H _ I h=>yX I a b ⟨v,H,I,r,h⟩ hd
variable {a b:â}
def PC(X:Cx)(op:CmpOp)(a b:â)(t:TE):Prop:=∀(pins:List (À×Ó)) s z H Q,ay X pins z H s->t z H Q->Ç (Í X.prog X.w) X.A (Ï a X.ah) (λv s₁=>Ç (Í X.prog X.w) X.A (Ï b X.ah) (λu s₂=>Ç (Í X.prog X.w) X.A (ó op v u) (EP X pins z Q) X.xe s₂) X.xe s₁) X.xe s
def tB'(Q:Bool->Hp->Prop)(x:V)(H:Hp):Prop:=bd (Q · H) x
def tB(t:TE):TT:=λz H Q=>t z H<|tB' Q
def QY(h:PC X op a b t)(h1:ş op b=false:=by first|exact QZ _ gn gn|rfl):PE X (.Compare a [op] [b] pos) t:=λpins s z H Q I hw=>wpAny_Compare1 (h pins s z H Q I hw) h1
def pw(h:PC X op a b t)(h1:ş op b=false:=by first|exact QZ _ gn gn|rfl):PT X (.Compare a [op] [b] pos) (tB t):=λpins s z H Q I hw=>by
 refine Åf (aM (h pins s z H _ I hw) λv i h1=>aM h1 λu j h2=>aM h2 λc k ⟨x,H1,e,f,g⟩=>?_) h1;obtain⟨d,rfl,q⟩:=bf g;cases f;exact lX ⟨H1,e,q⟩
def d_(h:PE X e t)(he:∀whole,ε e X.ah whole=(do let v <-whole;Ņ e.pos;ģ [v] (truthy v)):=by intro _;rfl):PT X e (tB t):=λpins s z H Q I hw=>by
 refine isTrue_plain (aM (h pins s z H _ I hw) λv f ⟨x,H1,a,b,c⟩=>?_)<|he _;obtain⟨d,rfl,q⟩:=bf c;cases b;exact lX ⟨H1,a,q⟩
variable {cI:List â}
def Q0(t u:TT):TT:=λz H Q=>t z H λc H1=>if c=true then u z H1 Q else Q false H1
def tOr(t u:TT):TT:=λz H Q=>t z H λc H1=>if c=true then Q true H1 else u z H1 Q
def HM(t:TT):TT:=λz H Q=>t z H λc H1=>Q (!c) H1
def tY(b:PT X a tA):PW X (.BoolOp .And [a] pos) tA:=λd pins s z H Q I h=>by
 refine isTrue_and<|aM (b pins s z H Q I h) λc f e=>?_;cases c with
 |true=>exact isTrue_and_nil e
 |false=>exact e
def pB(b:PT X a tA):PW X (.BoolOp .Or [a] pos) tA:=λd pins s z H Q I h=>by
 refine isTrue_or<|aM (b pins s z H Q I h) λc f e=>?_;cases c with
 |false=>exact isTrue_or_nil e
 |true=>exact e
def tZ(f:PT X a tA)(g:PW X (.BoolOp .And (b::cI) pos) BK):PW X (.BoolOp .And (a::b::cI) pos) (Q0 tA BK):=λi pins s z H Q I h=>by
 refine isTrue_and<|aM (f pins s z H _ I h) λc j ⟨H1,d,e⟩=>?_;cases c with
 |true=>exact g i pins j z H1 Q d e
 |false=>exact⟨H1,d,e⟩
def n9(f:PT X a tA)(g:PW X (.BoolOp .Or (b::cI) pos) BK):PW X (.BoolOp .Or (a::b::cI) pos) (tOr tA BK):=λi pins s z H Q I h=>by
 refine isTrue_or<|aM (f pins s z H _ I h) λc j ⟨H1,d,e⟩=>?_;cases c with
 |true=>exact⟨H1,d,e⟩
 |false=>exact g i pins j z H1 Q d e
def gy(b:PT X a tA):PT X (.UnaryOp .Not a pos) (HM tA):=λpins s z H Q I h=>isTrue_not<|aM (b pins s z H _ I h) λc j ⟨H1,d,e⟩=>⟨H1,d,e⟩
def HN'(tb:TE)(z:St)(Q:VK)(x:V)(H:Hp):Prop:=bd (λc=>if c=true then tb z H Q else Q (.bl false) H) x
def HN(ta tb:TE):TE:=λz H Q=>ta z H<|HN' tb z Q
def Q4'(tb:TE)(z:St)(Q:VK)(x:V)(H:Hp):Prop:=bd (λc=>if c=true then Q (.bl true) H else tb z H Q) x
def Q4(ta tb:TE):TE:=λz H Q=>ta z H<|Q4' tb z Q
def Q5'(Q:VK)(x:V)(H:Hp):Prop:=bd (λc=>Q (.bl (!c)) H) x
def Q5(ta:TE):TE:=λz H Q=>ta z H<|Q5' Q
def pC{op}{t:TE}(h:PE X a t):PE X (.BoolOp op [a] pos) t:=λpins s z H Q I hw=>BoolOp_one<|h pins s z H Q I hw
def qW(f:PE X a ta)(g:PE X (.BoolOp .And (b::cI) pos) tb):PE X (.BoolOp .And (a::b::cI) pos) (HN ta tb):=λpins s z H Q I h=>by
 refine BoolOp_and<|aM (f pins s z H _ I h) λv i q0=>?_;obtain⟨x,H1,e,j,d⟩:=q0;obtain⟨c,rfl,d⟩:=bf d;cases j;refine lX ?_;cases c with
 |true=>exact g pins i z H1 Q e d
 |false=>exact⟨.bl false,H1,e,J,d⟩
def Q6(f:PE X a ta)(g:PE X (.BoolOp .Or (b::cI) pos) tb):PE X (.BoolOp .Or (a::b::cI) pos) (Q4 ta tb):=λpins s z H Q I h=>by
 refine BoolOp_or<|aM (f pins s z H _ I h) λv i q0=>?_;obtain⟨x,H1,e,j,d⟩:=q0;obtain⟨c,rfl,d⟩:=bf d;cases j;refine lX ?_;cases c with
 |false=>exact g pins i z H1 Q e d
 |true=>exact⟨.bl true,H1,e,J,d⟩
def Q7(d:PE X a ta):PE X (.UnaryOp .Not a pos) (Q5 ta):=λpins s z H Q I h=>by
 refine UnaryOp_<|aM (d pins s z H _ I h) λv g q0=>?_;obtain⟨x,H1,e,f,b⟩:=q0;obtain⟨c,rfl,b⟩:=bf b;cases f;exact not_of<|lX ⟨.bl (!c),H1,e,J,b⟩
def O8(t:TT)(ta tb:TE):TE:=λz H Q=>t z H λc H1=>if c=true then ta z H1 Q else tb z H1 Q
def j_(i:PT X c tA)(j:PE X a ta)(k:PE X b tb):PE X (.IfExp c a b pos) (O8 tA ta tb):=λpins s z H Q I h=>by
 refine wpAny_IfExp<|aM (i pins s z H _ I h) λd e ⟨H1,f,g⟩=>?_;cases d with
 |true=>exact j pins e z H1 Q f g
 |false=>exact k pins e z H1 Q f g
end
def ao(K:Ñ)(H:Hp)(a:À)(xs:List V):Prop:=Rd H a (.ae xs)\/c3 λ(o:Ó)(aD:Array Á)(n:Nat)=>K.lookup a=O o/\o.cls=.type "list"/\o.dict=U/\o.data=.seq aD n/\aD.size<=É/\aX xs aD.toList
def aV(K:Ñ)(H:Hp)(a:À)(xs:List V):Prop:=Rd H a (.be xs)\/c3 λ(o:Ó)(aD:Array Á)(n:Nat)=>K.lookup a=O o/\o.cls=.type "tuple"/\o.data=.seq aD n/\aD.size<=É/\aX xs aD.toList
noncomputable def Q8:Á->Option V
|.none=>O .aQ
|.bool b=>O<|.bl b
|.int i _=>O<|.int i
|.str x _=>O<|.str x
|.bytes b _=>O<|.ig b
|.float b _=>O<|.BF b
|.ref a=>O<|.ref a
|.type n=>O<|.ty n
|_=>U
def bm.O9{x:V}(r:bm x u):Q8 u=O x:=by
 cases x with
 |aQ|bl _|ref _|ty _=>cases r;rfl
 |int _|str _|ig _|BF _=>obtain⟨t,rfl⟩:=r;rfl
def bm.inj{x:V}(r:bm x u)(q:bm y u):x=y:=cZ<|r.O9.symm.trans q.O9
theorem aX.inj:∀{xs ys:List V}{us:List Á},aX xs us->aX ys us->xs=ys
|_,_,_,.nil,.nil=>rfl
|_,_,_,.cons r t,.cons a t'=>by rw[r.inj a,aX.inj t t']
section
variable {ys:List V}
def ao.of(h:H a=O (.ae xs)):ao K H a xs:=.inl<|.inl h
def aV.of(h:H a=O (.be xs)):aV K H a xs:=.inl<|.inl h
def ay.list(I:ay X pins z H s)(h:ao X.K H a xs):∃aD:List Á,aX xs aD/\PlainL s.heap a aD.toArray/\xs.length<=sizeLine:=by
 rcases h with h|⟨o,aD,n,hk,b,hd,c,d,r⟩
 .obtain⟨F,aD,n,r,e⟩:=h.ok I.aF;exact⟨aD,r,⟨_,n,e,J,J,J⟩,F⟩
 .refine⟨aD.toList,r,⟨o,n,I.iE a o hk,b,hd,by simpa using c⟩,?_⟩;let e:=r.length;simp only[qw]at e;lia
def ay.tuple(I:ay X pins z H s)(h:aV X.K H a xs):∃aD:List Á,aX xs aD/\ŝ s.heap a aD.toArray/\xs.length<=sizeLine:=by
 rcases h with h|⟨o,aD,n,hk,b,c,d,r⟩
 .obtain⟨F,aD,r,p⟩:=h.ok I.aF;exact⟨aD,r,p,F⟩
 .refine⟨aD.toList,r,⟨o,I.iE a o hk,b,n,by simpa using c⟩,?_⟩;let e:=r.length;simp only[qw]at e;omega
def ay.yY(I:ay X pins z H s)(h:ao X.K H a xs)(h':ao X.K H a ys):xs=ys:=by
 obtain⟨aD,r,⟨o,n,e,_,_,d⟩,_⟩:=I.list h;obtain⟨its',f,⟨o',i,b,_,_,c⟩,_⟩:=I.list h';rw[e]at b;cases b;rw[d]at c;injection c with g _
 have:aD=its':=by simpa using cw Ád g
 subst this;exact r.inj f
def ay.HP(I:ay X pins z H s)(h:aV X.K H a xs)(h':aV X.K H a ys):xs=ys:=by
 obtain⟨aD,r,⟨o,e,_,n,d⟩,_⟩:=I.tuple h;obtain⟨its',f,⟨o',b,_,i,c⟩,_⟩:=I.tuple h';rw[e]at b;cases b;rw[d]at c;injection c with g _
 have:aD=its':=by simpa using cw Ád g
 subst this;exact r.inj f
end
abbrev Cx.mq(X:Cx)(E:Á->Ì->Prop):Cx:={X with xe:=E}
abbrev Cx.xT(X:Cx):Cx:=X.mq λ_ _=>False
def Cx.Ok.mq(ok:X.Ok)(E:Á->Ì->Prop):(X.mq E).Ok:=⟨ok.mod,ok.kind,ok.n6,ok.vq,ok.above,ok.inj,ok.has,ok.xR,ok.hd,ok.frames,ok.BH,ok.BI,ok.bs,ok.pp,ok.wb,ok.wc,ok.j9,ok.sR⟩
def Cx.Ok.pD(ok:(X.mq E).Ok):X.Ok:=⟨ok.mod,ok.kind,ok.n6,ok.vq,ok.above,ok.inj,ok.has,ok.xR,ok.hd,ok.frames,ok.BH,ok.BI,ok.bs,ok.pp,ok.wb,ok.wc,ok.j9,ok.sR⟩
def ay.mq(I:ay X pins z H s)(E:Á->Ì->Prop):ay (X.mq E) pins z H s:=⟨I.ok.mq E,I.os,I.fI,I.base,I.iD,I.cell,I.free,I.jH,I.j4,I.aF,I.len⟩
def ay.pD(I:ay (X.mq E) pins z H s):ay X pins z H s:=⟨I.ok.pD,I.os,I.fI,I.base,I.iD,I.cell,I.free,I.jH,I.j4,I.aF,I.len⟩
def SP.pD{D:iS}{f:Flow}(h:SP (X.mq E) pins D f s'):SP X pins D f s':=by
 cases f with
 |next|brk|cont=>obtain⟨a,H',I,q⟩:=h;exact⟨a,H',I.pD,q⟩
 |ret u=>obtain⟨v,a,H',I,r,q⟩:=h;exact⟨v,a,H',I.pD,r,q⟩
def iF.xT{st:List Đ}{t:TS}(h:iF X.xT st t):iF X st t:=λpins s z H D I hw=>iZ (h pins s z H D (I.mq _) hw) (λ_ _ q=>q.pD) λ_ _ F=>ņ F
section
variable {cI:List Đ} {t u:TS}
def yZ:TS:=λD z H=>D.nx z H
def pE(t u:TS):TS:=λD z H=>t {D with nx:=u D} z H
def Q9:iF X [] yZ:=λ_ _ z H _ I h=>FP ⟨z,H,I,h⟩
def az(h1:PS X st t)(h2:iF X cI u):iF X (st::cI) (pE t u):=λpins s z H D I h=>by
 refine Åg<|aM (h1 pins s z H {D with nx:=u D} I h) λf a q=>?_;cases f with
 |next=>obtain⟨b,H',c,q⟩:=q;exact h2 pins a b H' D c q
 |ret v|brk|cont=>exact q
def bS(h1:PS X st t):iF X [st] t:=λpins s z H D I h=>by
 refine Åg<|aM (h1 pins s z H D I h) λf a q=>?_;cases f with
 |next=>exact FP q
 |ret v|brk|cont=>exact q
def ay.quiet(I:ay X pins z H s):interactive X.ah=false:=by simp[interactive,I.ok.kind]
def we(te:TE):TS:=λD z H=>te z H λ_ H1=>D.nx z H1
def gN(he:PE X e te)(a:ō e U pos.line X.ah=pure false:=by rfl):PS X (.Expr e pos) (we te):=λpins s z H D I h=>wpAny_Expr_any (aM (he pins s z H _ I h) λv d ⟨x,H1,b,f,c⟩=>⟨z,H1,b,c⟩) I.quiet a
def mr(te:TE):TS:=λD z H=>te z H D.rt
def Q_(he:PE X e te):PS X (.Return (O e) pos) (mr te):=λpins s z H D I h=>wpAny_Return_some<|aM (he pins s z H _ I h) λv d ⟨x,H1,a,b,c⟩=>⟨x,z,H1,a,b,c⟩
def y4(c:TT)(t u:TS):TS:=λD z H=>c z H λb H1=>if b=true then t D z H1 else u D z H1
def pF{a b:List Đ}{tc:TT}(i:PT X c tc)(j:iF X a t)(k:iF X b u):PS X (.If c a b pos) (y4 tc t u):=λpins s z H D I h=>by
 refine wpAny_If<|aM (i pins s z H _ I h) λd e ⟨H1,f,g⟩=>?_;cases d with
 |true=>exact j pins e z H1 D f g
 |false=>exact k pins e z H1 D f g
end
abbrev TG:=V->St->Hp->(St->Hp->Prop)->Prop
abbrev qC:=List V->St->Hp->(St->Hp->Prop)->Prop
def PG(X:Cx)(target:â)(t:TG):Prop:=∀(pins:List (À×Ó))(s:Ì)(z:St)(H:Hp)(v:V)(u:Á)(Q:St->Hp->Prop),ay X pins z H s->bm v u->t v z H Q->Ç (Í X.prog X.w) X.A (ż target X.ah u) (λ_ s'=>c2 λσ' H'=>ay X pins σ' H' s'/\Q σ' H') X.xe s
def xU(X:Cx)(ts:List â)(t:qC):Prop:=∀(pins:List (À×Ó))(s:Ì)(z:St)(H:Hp)(vs:List V)(us:List Á)(Q:St->Hp->Prop),ay X pins z H s->aX vs us->t vs z H Q->Ç (Í X.prog X.w) X.A (assignInOrder ((Š ts X.ah).map (·.2)) us) (λ_ s'=>c2 λσ' H'=>ay X pins σ' H' s'/\Q σ' H') X.xe s
abbrev wf:=V->V->V->Hp->(Hp->Prop)->Prop
def CM(X:Cx)(t:wf):Prop:=∀(pins:List (À×Ó))(s:Ì)(z:St)(H:Hp)(o i v:V)(ov iv u:Á)(Q:Hp->Prop),ay X pins z H s->bm o ov->bm i iv->bm v u->t o i v H Q->Ç (Í X.prog X.w) X.A (ϣ ov iv u) (λ_ s'=>∃H',ay X pins z H' s'/\Q H') X.xe s
abbrev vw:=V->V->Hp->VK->Prop
def BL(X:Cx)(op:ζ)(t:vw):Prop:=∀(pins:List (À×Ó))(s:Ì)(z:St)(H:Hp)(x y:V)(v u:Á)(Q:VK),ay X pins z H s->bm x v->bm y u->t x y H Q->Ç (Í X.prog X.w) X.A (Áe op v u) (EP X pins z Q) X.xe s
def fu(i:Nat):TG:=λv z H Q=>Q (z.set i<|O v) H
def Ra(a:X.N.Nodup)(hi:X.N[i]?=O x)(b:sQ X.ah.scope x)(c:X.fn x=true\/X.ah.scope.names.lookup x=O .local:=by first|exact .inl rfl|exact .inr rfl|assumption):PG X (.Name x pos) (fu i):=λpins s z H v u Q I r h=>Åh<|CK I a hi b r (λs' d=>⟨_,H,d,h⟩) c
def Rb:qC:=λvs z H Q=>vs=[]/\Q z H
inductive Rc(t:TG)(u:qC)(vs:List V)(z:St)(H:Hp)(Q:St->Hp->Prop):Prop|m(v r:_)(_:vs=v::r)(_:t v z H λσ' H'=>u r σ' H' Q)
def y6:xU X [] Rb:=λpins s z H vs us Q I r h=>by
 obtain⟨e,h⟩:=h;subst e;cases r;exact assignInOrder_nil ⟨z,H,I,h⟩
def pG{t:TG}{u:qC}(h1:PG X e t)(h2:xU X es u)(a:(Š (e::es) X.ah).map (·.2)=ż e X.ah::(Š es X.ah).map (·.2):=by rfl):xU X (e::es) (Rc t u):=λpins s z H vs us Q I r h=>by
 obtain⟨v,j,b,h⟩:=h;subst b;cases r with
 |cons r c=>rw[a];refine assignInOrder_cons<|aM (h1 pins s z H _ _ _ I r h) λ_ d q0=>?_;obtain⟨f,H1,g,i⟩:=q0;exact h2 pins d f H1 _ _ Q g c i
inductive HQ(K:Ñ)(n:Nat)(t:qC)(v:V)(z:St)(H:Hp)(Q:St->Hp->Prop):Prop|m(a xs:_)(_:v=.ref a)(_:aV K H a xs)(_:xs.length=n)(_:t xs z H Q)
def CN{k:Nat}{t:qC}(f:X.gf=true)(h:xU X es t)(g:(Š es X.ah).length=n:=by rfl) (i:(Š es X.ah).findIdx? (·.1)=none:=by rfl):PG X (.Tuple es k pos) (HQ X.K n t):=λpins s z H v u Q I r c=>by
 obtain⟨a,xs,j,l,m,c⟩:=c;subst j;cases r;obtain⟨aD,d,p,x⟩:=I.tuple l;refine assign_Tuple_tuple (I.ok.hd f) p (by simp[g,<-m,d.length]) i λh' q=>?_;let w:ay X pins z H {s with heap:=h'}:=I.cy (t':=s.toks) λb o e=>q b o (gm<|cG e) e;exact h pins _ z H xs _ Q w (by simpa using d) c
def Re(to ti:TE)(t:wf):TG:=λv z H Q=>to z H λo H1=>ti z H1 λi H2=>t o i v H2 λH3=>Q z H3
def HR{i:â}{c:TE}{t:wf}(d:PE X o to)(hi:PE X i c)(e:CM X t)(f:∀v,ż (.Subscript o i pos) X.ah v=(do
   let a <-ģ [v] (Ï o X.ah);let b <-ģ [v,a] (Ï i X.ah);Ņ pos;ģ [v,a,b] (ϣ a b v);release [v,a,b] []):=by intro _;rfl):PG X (.Subscript o i pos) (Re to c t):=λpins s z H v u Q I r h=>by
 rw[f];refine aA<|oI<|aM (d pins s z H _ I h) λa g q0=>?_;obtain⟨x,H1,j,k,l⟩:=q0;refine aA<|oI<|aM (hi pins g z H1 _ j l) λb m q0=>?_;obtain⟨y,H2,n,p,q⟩:=q0;refine aA<|FQ<|aA<|oI<|aM (e pins m z H2 x y v a b u _ n k p r q) λ_ B q0=>?_;obtain⟨w,F,A⟩:=q0;exact wpAny_release ⟨z,w,F,A⟩
def t_(te:TE)(g:TG):TS:=λD z H=>te z H λx H1=>g x z H1 D.nx
def HS(he:PE X e te)(a:PG X tg g)(b:swapsWithSole [tg] e pos.line X.ah=pure false:=by rfl)(c:swappedStores [tg] e X.ah=pure none:=by rfl)(h1:(Š [tg] X.ah).map (·.2)=[ż tg X.ah]:=by rfl):PS X (.Assign [tg] e pos) (t_ te g):=λpins s z H D I h=>by
 refine wpAny_Assign_stores (aM (he pins s z H _ I h) λv d ⟨x,H1,f,i,j⟩=>?_) b c;exact h1▸aM (a pins d z H1 x v _ f i j) λ_ k q=>q
def Rf(a:X.N.Nodup)(hi:X.N[i]?=O x)(b:sQ X.ah.scope x)(he:PE X e te)(c:ō e (O (.Name x pos')) pos.line X.ah=pure false:=by rfl)(d:X.fn x=true\/X.ah.scope.names.lookup x=O .local:=by first|exact .inl rfl|exact .inr rfl|assumption):PS X (.Assign [.Name x pos'] e pos) (t_ te (fu i)):=λpins s z H D I h=>by
 refine wpAny_Assign_Name (aM (he pins s z H _ I h) λv l ⟨y,H1,f,g,j⟩=>?_) c;exact CK f a hi b g (λm k=>⟨_,H1,k,j⟩) d
inductive Rg(i:Nat)(te:TE)(ti:vw)(D:iS)(z:St)(H:Hp):Prop|m(x:_)(_:z[i]?=O (O x))(_:te z H λy H1=>ti x y H1 λF H2=>D.nx (z.set i<|O F) H2)
def ua{op:ζ}{d:vw}(f:X.N.Nodup)(hi:X.N[i]?=O x)(a:sQ X.ah.scope x)(he:PE X e te)(g:BL X op d)(j:X.fn x=true\/X.ah.scope.names.lookup x=O .local:=by first|exact .inl rfl|exact .inr rfl|assumption):PS X (.AugAssign (.Name x pos') op e pos) (Rg i te d):=λpins s z H D I h=>by
 obtain⟨v,n,h⟩:=h;obtain⟨m,o,p⟩:=I.iD;have b:vt X.ah.scope x:=by rcases a with k|k;exact .inl k;exact .inr<|.inl k
 obtain⟨u,r,l⟩:=p i x v hi n b;refine wpAny_AugAssign_Name ?_;have go:Ç (Í X.prog X.w) X.A (Ï e X.ah) (λw q=>Ç (Í X.prog X.w) X.A (Áe op u w) (λr t=>Ç (Í X.prog X.w) X.A (Áb X.ah x r) (λ_=>SP X pins D .next) X.xe t) X.xe q) X.xe s:=by exact aM (he pins s z H _ I h) (by rintro w A ⟨y,H1,B,C,E⟩;exact aM (g pins A z H1 v y u w _ B r C E) λJ N ⟨a0,H2,F,G,a1⟩=>CK F f hi a G (λP K=>⟨_,H2,K,a1⟩) j)
 rcases l with⟨hk,hm⟩|⟨hk,c,L,M⟩
 .exact Åd I.ok.kind hk o hm go
 .rcases hk with hk|hk
  .exact Åe I.ok.kind hk L M go
  .rcases a with k|k
   .let:X.ah.scope.names.lookup x=O .free:=hk;rw[k]at this;cases this
   .let:X.ah.scope.names.lookup x=O .free:=hk;rw[k]at this;cases this
def Rh(to ti te:TE)(y8:V->V->Hp->VK->Prop)(BM:vw)(y9:wf):TS:=λD z H=>to z H λo H1=>ti z H1 λi H2=>y8 o i H2 λx H3=>te z H3 λy H4=>BM x y H4 λF H5=>y9 o i F H5 λH6=>D.nx z H6
def HU(X:Cx)(t:V->V->Hp->VK->Prop):Prop:=∀(pins:List (À×Ó))(s:Ì)(z:St)(H:Hp)(o i:V)(ov iv:Á)(Q:VK),ay X pins z H s->bm o ov->bm i iv->t o i H Q->Ç (Í X.prog X.w) X.A (Ŏ ov iv) (EP X pins z Q) X.xe s
def Ri{i:â}{d:TE}{f:V->V->Hp->VK->Prop}{g:vw}{j:wf}{op:ζ}(p:PE X o to)(hi:PE X i d)(q:HU X f)(he:PE X e te)(r:BL X op g)(t:CM X j)(u:∀a b new,augStore i a b new=(do ģ [new,a,b] (ϣ a b new);release [new,a,b] [];pure .next):=by intros;rfl):PS X (.AugAssign (.Subscript o i ub) op e pos) (Rh to d te f g j):=λpins s z H D I h=>by
 refine wpAny_AugAssign_SubscriptAny (aM (p pins s z H _ I h) λa w ⟨k,H1,x,l,y⟩=>?_) u;exact aM (hi pins w z H1 _ x y) λb J ⟨m,H2,A,n,B⟩=>aM (q pins J z H2 k m a b _ A l n B) λc C ⟨E,F,G,a2,K⟩=>aM (he pins C z F _ G K) λv L ⟨M,N,a0,P,Q⟩=>aM (r pins L z N E M c v _ a0 a2 P Q) λnew R ⟨S,T,a1,W,Y⟩=>aM (t pins R z T k m S a b new _ a1 l n W Y) λ_ s6 ⟨a3,I6,q6⟩=>⟨z,a3,I6,q6⟩
inductive O_(f:Int->Int->Int)(x y:V)(H:Hp)(Q:VK):Prop|m(i j:_)(_:x=.int i)(_:y=.int j)(_:Q (.int<|f i j) H)
def uc:BL X .Add (O_ λi j=>i+j):=λpins s z H x y v u Q I a b h=>by obtain⟨i,j,c,e2,q⟩:=h;subst c;subst e2;obtain⟨t,rfl⟩:=a;obtain⟨t',rfl⟩:=b;exact Åi ⟨.int _,H,I.cN _,⟨_,J⟩,q⟩
def Rj:BL X .Sub (O_ λi j=>i-j):=λpins s z H x y v u Q I a b h=>by obtain⟨i,j,c,e2,q⟩:=h;subst c;subst e2;obtain⟨t,rfl⟩:=a;obtain⟨t',rfl⟩:=b;exact isub_int ⟨.int _,H,I.cN _,⟨_,J⟩,q⟩
inductive Rk(c:TT)(tb:TS)(D:iS)(z:St)(H:Hp):Prop|m(W:Nat->St->Hp->Prop)(_:(∃m,W m z H))(_:∀m z H,W m z H-> c z H λb H1=>if b=true then ∃N:St->Hp->Prop,(∀σ' H',N σ' H'->∃m',m'<m/\W m' σ' H')/\tb {D with nx:=N,ct:=N,bk:=D.nx} z H1 else D.nx z H1)
def qX{tc:TT}{tb:TS}(p:Áf (Í X.prog X.w) X.A X.ah X.xe)(u:PT X c tc)(w:iF X body tb):PS X (.While c body [] pos) (Rk tc tb):=λpins s z H D I h=>by
 obtain⟨W,⟨m0,x⟩,turn⟩:=h;refine wpAny_While<|codeAny_whileLoop (λn s'=>c2 λq H'=>ay X pins q H' s'/\W n q H') ?_ m0 ⟨z,H,I,x⟩;rintro n y ⟨e,H1,F,A⟩;refine u7 p<|aM (u pins y e H1 _ F<|turn n e H1 A) λb B ⟨H2,r,g⟩=>?_;cases b with
 |true=>
  obtain⟨N,t,g⟩:=g;rw[aj J];refine u7 p<|aM (w pins B e H2 _ r g) λf C i=>?_;cases f with
  |next|cont=>obtain⟨a,d,j,k⟩:=i;obtain⟨l,m,o⟩:=t a d k;exact⟨l,m,a,d,j,o⟩
  |brk|ret v=>exact i
 |false=>rw[ai eg];exact FP ⟨e,H2,r,g⟩
structure It where
 go:Nat->Hp->Prop
 fU:Nat->Hp->V->Hp->Prop
 stop:Nat->Hp->Prop
def kf(X:Cx)(pins:List (À×Ó))(H:Hp)(b:À):Prop:=H b=U/\b≠X.ah.locals/\b∉X.fs/\(b∈X.ex\/X.gW.heap.objs.size<=b)/\(∀x c,X.ah.cells.lookup x=O c->c≠b)/\∀p∈X.pn++pins,p.1≠b
def ay.qY(I:ay X pins z H s)(a:s.heap.objs.size<=b)(d:H' b=U):kf X pins H' b:=by
 refine⟨d,Bf<|ia I.lt a,I.QS a,.inr<|d5 I.sz a,λx c e F=>?_,λp f F=>?_⟩
 .obtain⟨v,q⟩:=I.cell x c e;exact absurd (ia q.lt (by rw[F];exact a))<|lW _
 .exact absurd (ia (cG (I.j4 p f).1) (by rw[F];exact a))<|lW _
structure jI(P:ò)(w:è)(K:Ñ)(tg:â)(F:It)(fp:List À)(it:À)(tn:Nat->á->Prop):Prop where
 mem:it∈fp
 obj:∀i h,tn i h->∀b∈fp,∃o,h.get? b=O o/\∀v,o.data≠.cell v
 keep:∀i h h',tn i h->(∀b∈fp,∀o,h.get? b=O o->h'.get? b=O o)->tn i h'
 item:∀(X:Cx),X.prog=P->X.w=w->X.K=K->X.gf=true->∀(i:Nat)(pins:List (À×Ó))(s:Ì)(z:St)(H:Hp)(E:Á->Ì->Prop),ay X pins z H s->(∀b∈fp,kf X pins H b)->tn i s.heap->F.go i H->
  wpAny (Í P w) X.A (ĉ (.ref it)) (λr s1=>∃u,r=O u/\
   wpAny (Í P w) X.A (Ϥ tg (.ref it) u) (λ_ s2=>c2 λx H'=>ay X pins z H' s2/\bm x u/\F.fU i H x H'/\tn (i+1) s2.heap/\∀b∈fp,H' b=U) E s1) E s
 done:∀(X:Cx),X.prog=P->X.w=w->X.K=K->X.gf=true->∀(i:Nat)(pins:List (À×Ó))(s:Ì)(z:St)(H:Hp)(E:Á->Ì->Prop),ay X pins z H s->(∀b∈fp,kf X pins H b)->tn i s.heap->F.stop i H->
  wpAny (Í P w) X.A (ĉ (.ref it)) (λr s1=>r=U/\ay X pins z H s1) E s
 self:∀(A:ń)(i:Nat)(s:Ì)(Q:Á->Ì->Prop)(E:Á->Ì->Prop),tn i s.heap->Q (.ref it) s->Ç (Í P w) A (š (.ref it)) Q E s
abbrev TI:=St->Hp->(It->Hp->Prop)->Prop
inductive Gq(X:Cx)(pins:List (À×Ó))(z:St)(tg:â)(R:It->Hp->Prop)(Gr:Á)(s2:Ì):Prop|m(it:À)(fp:List À)(tn:Nat->á->Prop)(F:It)(H':Hp)(_:Gr=.ref it)(_:ay X pins z H' s2)(_:jI X.prog X.w X.K tg F fp it tn)(_:tn 0 s2.heap)(_:(∀b∈fp,kf X pins H' b))(_:R F H')
def PI(X:Cx)(tg iter:â)(wi:TI):Prop:=∀(pins:List (À×Ó))(s:Ì)(z:St)(H:Hp)(R:It->Hp->Prop),ay X pins z H s->wi z H R->Ç (Í X.prog X.w) X.A (Ï iter X.ah) (λv s1=>Ç (Í X.prog X.w) X.A (š v) (Gq X pins z tg R) X.xe s1) X.xe s
def n_{o:Ó}{n:String}{vs:Array Á}{Q:Unit->Ì->Prop}(b:s.heap.get? it=O o)(c:o.cls=.type n)(hd:o.data=.fields vs)(d:["enumerate","zip","dict_itemiterator","dict_reverseitemiterator","odict_iterator","itertools.zip_longest","itertools.pairwise"].contains n=false) (a:Q () s):Ç M A (Ϥ tg (.ref it) u) Q E s:=by
 cases tg<;>first
  |exact bc a
  |(cases u<;>first
    |exact bc a
    |(refine aA (wpAny_load b ?_)
      rw[c,hd];show Ç M A (if(["enumerate","zip","dict_itemiterator","dict_reverseitemiterator","odict_iterator","itertools.zip_longest","itertools.pairwise"].contains n&&vs[0]? ==O (Č _))=true then _ else _) Q E s;rw[ai (by intro h;rw[d,kO]at h;cases h)];exact bc a))
def iG(K:Ñ)(a:À):It:=⟨λi H=>c2 λxs x=>ao K H a xs/\xs[i]?=O x,λi H x H'=>H'=H/\∀xs,ao K H a xs->xs[i]?=O x,λi H=>∃xs,ao K H a xs/\xs.length<=i⟩
def j6(K:Ñ)(a:À):It:=⟨λi H=>c2 λxs x=>aV K H a xs/\xs[i]?=O x,λi H x H'=>H'=H/\∀xs,aV K H a xs->xs[i]?=O x,λi H=>∃xs,aV K H a xs/\xs.length<=i⟩
def pH(lo:Int)(n:Nat):It:=⟨λi _=>i<n,λi H x H'=>H'=H/\x=.int (lo+i),λi _=>n<=i⟩
def Rm(a it:À):jI P w K tg (iG K a) [it] it (λi h=>h.IsListIter it a i) where
 mem:=by simp
 obj:=λi h st b f=>by
  have e:b=it:=by simpa using f
  subst e;obtain⟨o,e,c,d⟩:=st;exact⟨o,e,λv a2=>by rw[d]at a2;cases a2⟩
 keep:=λi h h' st k=>st.at λo e=>k it Gc o e
 item:=by
  intro X j l m D i pins s z H E I hf st n;subst j l m;refine gg λP0 p0=>?_;have⟨xs,x,g,q⟩:=n;have⟨aD,r,p,G⟩:=I.list g;obtain⟨u,a1,L⟩:=r.get q;obtain⟨t,y,M,A,B,C⟩:=hf it Gc;refine p0 ?_;refine wpAny_pyNext_list_item st p.isList (x:=u) (by simpa using a1) λh' F N=>?_;have a0:ay X pins z H {s with heap:=h'}:=I.fJ (t':=s.toks) (λb o f e=>(N.2 b f).trans e) t y A B C;obtain⟨o,e,c,d⟩:=id F;exact⟨u,J,n_ (s:={s with heap:=h'}) e c d gn ⟨x,H,a0,L,⟨J,λys Q=>by rw[I.yY Q g];exact q⟩,F,λb f=>(hf b f).1⟩⟩
 done:=by intro X j l m D i pins s z H E I hf st n;subst j l m;obtain⟨xs,g,q⟩:=n;obtain⟨aD,r,p,G⟩:=I.list g;obtain⟨t,y,M,A,B,C⟩:=hf it Gc;have S:=r.length;exact wpAny_pyNext_list_end (I.ok.hd D) st p.isList (by simp;lia) λh' R=>⟨J,I.fJ (t':=s.toks) (λb o f e=>R b o f e) t y A B C⟩
 self:=λ_ _ _ _ _ st h=>wpAny_pyIter_listiter st h
def Rn(a it:À):jI P w K tg (j6 K a) [it] it (λi h=>h.IsTupleIter it a i) where
 mem:=by simp
 obj:=λi h st b f=>by
  have e:b=it:=by simpa using f
  subst e;obtain⟨o,e,c,d⟩:=st;exact⟨o,e,λv a2=>by rw[d]at a2;cases a2⟩
 keep:=λi h h' st k=>st.at λo e=>k it Gc o e
 item:=by
  intro X j l m D i pins s z H E I hf st n;subst j l m;refine gg λP0 p0=>?_;have⟨xs,x,g,q⟩:=n;have⟨aD,r,p,G⟩:=I.tuple g;obtain⟨u,a1,L⟩:=r.get q;obtain⟨t,y,M,A,B,C⟩:=hf it Gc;refine p0 ?_;refine wpAny_pyNext_tuple_item st (show s.heap.IsTuple a aD.toArray from p) (x:=u) (by simpa using a1) λh' F N=>?_;have a0:ay X pins z H {s with heap:=h'}:=I.fJ (t':=s.toks) (λb o f e=>(N.2 b f).trans e) t y A B C;obtain⟨o,e,c,d⟩:=id F;exact⟨u,J,n_ (s:={s with heap:=h'}) e c d gn ⟨x,H,a0,L,⟨J,λys Q=>by rw[I.HP Q g];exact q⟩,F,λb f=>(hf b f).1⟩⟩
 done:=by intro X j l m D i pins s z H E I hf st n;subst j l m;obtain⟨xs,g,q⟩:=n;obtain⟨aD,r,p,G⟩:=I.tuple g;obtain⟨t,y,M,A,B,C⟩:=hf it Gc;have S:=r.length;exact wpAny_pyNext_tuple_end (I.ok.hd D) st (show s.heap.IsTuple a aD.toArray from p) (by simp;omega) λh' R=>⟨J,I.fJ (t':=s.toks) (λb o f e=>R b o f e) t y A B C⟩
 self:=λ_ _ _ _ _ st h=>wpAny_pyIter_tupleiter st h
def Ro(it:À)(lo:Int)(n:Nat):jI P w K tg (pH lo n) [it] it (λi h=>ϥ h it (lo+(i:Nat)*1) ((n:Int)-(i:Nat)) 1) where
 mem:=by simp
 obj:=λi h st b a=>by
  have e:b=it:=by simpa using a
  subst e;exact⟨_,st,λv F=>by
   have x:Data.fields _=Data.cell v:=F;cases x⟩
 keep:=λi h h' st k=>k it Gc _ st
 item:=by
  intro X c d f g i pins s z H E I hf st j;subst c d f;obtain⟨l,m,y,p,q,r⟩:=hf it Gc;have W:=Åj (prog:=X.prog) (w:=X.w) (I.ok.hd g) it lo 1 n;refine W.item i s _ _ j st λv h' tk A u kk=>?_;obtain⟨t,rfl⟩:=A;have B:ay X pins z H {s with heap:=h',toks:=tk}:=I.fJ (λb o a e=>kk b o (by simpa using a) e) l m p q r;refine⟨_,J,n_ (s:={s with heap:=h',toks:=tk}) (n:="range_iterator") u J J gn ⟨.int (lo+i),H,B,⟨t,?_⟩,⟨J,J⟩,u,λb a=>(hf b a).1⟩⟩;rw[Int.mul_one]
 done:=by intro X c d f g i pins s z H E I hf st j;subst c d f;obtain⟨l,m,y,p,q,r⟩:=hf it Gc;exact Æa (I.ok.hd g) st (by have:n<=i:=j;lia) λh' C=>⟨J,I.fJ (t':=s.toks) (λb o a e=>C b o a e) l m p q r⟩
 self:=λ_ _ _ _ _ st h=>Æb st h
def HV(K:Ñ)(tl:TE):TI:=λz H R=>tl z H λx H1=>∃a,x=.ref a/\(∃xs,ao K H1 a xs)/\R (iG K a) H1
def HW(K:Ñ)(tl:TE):TI:=λz H R=>tl z H λx H1=>∃a,x=.ref a/\(∃xs,aV K H1 a xs)/\R (j6 K a) H1
def dm{l:â}{tl:TE}(f:PE X l tl):PI X tg l (HV X.K tl):=λpins s z H R I h=>aM (f pins s z H _ I h) λv c ⟨x,H1,d,g,i⟩=>by
 obtain⟨a,e,⟨xs,j⟩,q⟩:=i;subst e;cases g;obtain⟨aD,m,p,n⟩:=d.list j;refine Ôb p.isList ⟨c.heap.objs.size,[c.heap.objs.size],_,_,H1,J,d.cy (t':=c.toks) λb o e=>b_ _ e,Rm a _,⟨_,c7 _ J,J,J⟩,λb k=>?_,q⟩;have e:b=c.heap.objs.size:=by simpa using k
 subst e;exact d.qY (aN _)<|d.aF.fresh<|aN _
def wg{l:â}{tl:TE}(f:PE X l tl):PI X tg l (HW X.K tl):=λpins s z H R I h=>aM (f pins s z H _ I h) λv c ⟨x,H1,d,g,i⟩=>by
 obtain⟨a,e,⟨xs,j⟩,q⟩:=i;subst e;cases g;obtain⟨aD,m,p,n⟩:=d.tuple j;refine wpAny_pyIter_tuple (show c.heap.IsTuple a aD.toArray from p) ⟨c.heap.objs.size,[c.heap.objs.size],_,_,H1,J,d.cy (t':=c.toks) λb o e=>b_ _ e,Rn a _,⟨_,c7 _ J,J,J⟩,λb k=>?_,q⟩;have e:b=c.heap.objs.size:=by simpa using k
 subst e;exact d.qY (aN _)<|d.aF.fresh<|aN _
def Rp{R:It->Hp->Prop}{lo hi:Int}{t u v:í}{tk:Nat}(I:ay X pins z H s)(h1: -(2^62)<=lo)(h2:lo<2^62)(c: -(2^62)<=hi)(d:hi<2^62)(q:R (pH lo (hi-lo).toNat) H):Ç (Í X.prog X.w) X.A (š (.ref s.heap.objs.size)) (Gq X pins z tg R) E {s with heap:=s.heap.push {cls:=.type "range",data:=.fields #[.int lo t,.int hi u,.int 1 v]},toks:=tk}:=by
 refine Æc (Æd ..) (small_one h1 h2 c d) ?_;have a:ay X pins z H {s with heap:=s.heap.push {cls:=.type "range",data:=.fields #[.int lo t,.int hi u,.int 1 v]},toks:=tk}:=I.cy λb o e=>b_ _ e;refine⟨(s.heap.push {cls:=.type "range",data:=.fields #[.int lo t,.int hi u,.int 1 v]}).objs.size,[(s.heap.push {cls:=.type "range",data:=.fields #[.int lo t,.int hi u,.int 1 v]}).objs.size],_,_,H,J,a.cy (t':=tk) λb o e=>b_ _ e,Ro _ lo (hi-lo).toNat,?_,λb f=>?_,q⟩
 .have g:lo+((0:Nat):Int)*1=lo:=Gc;have e2:(((hi-lo).toNat:Nat):Int)-((0:Nat):Int)=Ág lo hi 1:=by rw[rangeSize_one];split<;>lia
  show ϥ _ _ (lo+((0:Nat):Int)*1) ((((hi-lo).toNat:Nat):Int)-((0:Nat):Int)) 1;rw[g,e2];exact c7 _ J
 .have e:b=(s.heap.push {cls:=.type "range",data:=.fields #[.int lo t,.int hi u,.int 1 v]}).objs.size:=by simpa using f
  subst e;exact a.qY (aN _)<|a.aF.fresh<|aN _
inductive Rq'(R:It->Hp->Prop)(vs:List V)(H1:Hp):Prop|m(j:Int)(_:vs=[.int j])(_:-(2^62)<=j)(_:j<2^62)(_:R (pH 0 j.toNat) H1)
def Rq(ta:TA):TI:=λz H R=>ta z H<|Rq' R
def CO{a:â}{ta:TA}(c:Gl X "range")(d:X.mg "range"=U)(f:PA X [a] ta)(g:Ð [a] X.ah=[(false,Ï a X.ah)]:=by rfl):PI X tg (.Call (.Name "range" p) [a] [] pos) (Rq ta):=λpins s z H R I h=>by
 refine η<|n8 I c d boot_range<|u9 (aM (f pos pins s z H _ I h) λus n ⟨vs,H1,i,k,b⟩=>?_) g J;obtain⟨j,e,b,l,q⟩:=b;subst e;cases k with
 |cons r m=>cases m;obtain⟨t,rfl⟩:=r;exact call_range_1<|Rp i Z Z b l (by simpa using q)
def CQ(wi:TI)(g:TG)(tb:TS):TS:=λD z H=>wi z H λF H1=>∃W:Nat->Nat->St->Hp->Prop,(∃m,W 0 m z H1)/\∀i m z H,W i m z H->(F.stop i H/\D.nx z H)\/(F.go i H/\∃N:St->Hp->Prop,(∀σ' H',N σ' H'->∃m',m'<m/\W (i+1) m' σ' H')/\∀x H',F.fU i H x H'->g x z H' λσ2 H2=>tb {D with nx:=N,ct:=N,bk:=D.nx} σ2 H2)
def wj(fp:List À)(h:á):List (À×Ó):=fp.filterMap λb=>(h.get? b).map λo=>(b,o)
def CS{o:Ó}(a:b∈fp)(e:h.get? b=O o):(b,o)∈wj fp h:=aeW.mpr ⟨b,a,by rw[e];rfl⟩
def Rr{p:À×Ó}(a:p∈wj fp h):p.1∈fp/\h.get? p.1=O p.2:=by
 obtain⟨b,c,e⟩:=aeW.mp a;cases q:h.get? b with
 |none=>rw[q]at e;cases e
 |some o=>rw[q]at e;have d:(b,o)=p:=cZ e;subst d;exact⟨c,q⟩
def ay.HX(I:ay X pins z H s)(f:∀b∈fp,kf X pins H b)(g:∀b∈fp,∃o,s.heap.get? b=O o/\∀v,o.data≠.cell v):ay X (pins++wj fp s.heap) z H s:=I.HJ λp h=>(d6.mp h).elim (λF=>I.j4 p<|qx _ F) λF=>by obtain⟨a,e⟩:=Rr F;obtain⟨i,j,k,_⟩:=f p.1 a;obtain⟨o,c,d⟩:=g p.1 a;rw[e]at c;cases c;exact⟨e,i,j,k,d⟩
def ay.y_{pl:List (À×Ó)}(I:ay X (pins++pl) z H s):ay X pins z H s:=I.HJ λp a=>I.j4 p<|qx _<|Ói _ a
def Rs{tb:TS}(p:Áf (Í X.prog X.w) X.A X.ah X.xe)(G:X.gf=true)(hi:PI X tg iter wi)(S:PG X tg g)(a:iF X body tb)(a1:∀x,Ž iter X.ah x=pure x:=by intro _;rfl):PS X (.For tg iter body [] pos) (CQ wi g tb):=λpins s z H D I h=>by
 refine wpAny_For (aM (hi pins s z H _ I h) λv s1 h1=>aM h1 λGr s2 h2=>?_) a1;obtain⟨it,fp,K,a2,H2,e,V,T,eC,L,W,⟨m0,Y⟩,turn⟩:=h2;subst e;let a4:∀{H':Hp},(∀b∈fp,H' b=U)->∀b∈fp,kf X pins H' b:=λa3 b a=>⟨a3 b a,(L b a).2⟩
 refine codeAny_forLoop_any (λn s'=>c3 λi q H'=>ay X pins q H' s'/\K i s'.heap/\(∀b∈fp,H' b=U)/\W i n q H') ?_ m0 ⟨0,z,H2,V,eC,λb a=>(L b a).1,Y⟩;rintro n M ⟨i,t,y,a0,gq,P,w3⟩;rcases turn i n t y w3 with⟨stop,qn⟩|⟨go,N,hN,step⟩
 .refine u7 p<|aM (T.done X J J J G i pins M t y X.xe a0 (a4 P) gq stop) λr s4 q0=>?_;obtain⟨A,I4⟩:=q0;subst A;exact FP ⟨t,y,I4,qn⟩
 .refine u7 p<|aM (T.item X J J J G i pins M t y X.xe a0 (a4 P) gq go) λr s4 q0=>?_;obtain⟨u,A,h4⟩:=q0;subst A;refine u7 p<|aM h4 λ_ Q q0=>?_;have⟨x,R,I5,r5,y5,B,C⟩:=q0;let E:=I5.HX (a4 C)<|T.obj _ _ B;refine u7 p<|aM (S _ Q t R x u _ E r5<|step x R y5) λ_ s6 q0=>?_;obtain⟨σ6,H6,I6,q6⟩:=q0;refine u7 p<|aM (a _ s6 σ6 H6 _ I6 q6) λf F l=>?_;let again:∀{c:St}{j:Hp},ay X (pins++wj fp Q.heap) c j F->N c j->∃m,m<n/\c3 λi q H'=>ay X pins q H' F/\K i F.heap/\(∀b∈fp,H' b=U)/\W i m q H':=λ{c j} k w=>by obtain⟨m',hm,w7⟩:=hN c j w;refine⟨m',hm,i+1,c,j,k.y_,T.keep _ _ _ B λb a o e=>(k.j4 (b,o)<|qx _<|qx _<|CS a e).1,λb a=>?_,w7⟩;obtain⟨o,e,d⟩:=T.obj _ _ B b a;exact(k.j4 (b,o)<|qx _<|qx _<|CS a e).2.1
  cases f with
  |next|cont=>obtain⟨c,j,k,w⟩:=l;exact again k w
  |brk=>obtain⟨c,j,k,l⟩:=l;exact⟨c,j,k.y_,l⟩
  |ret v=>obtain⟨x7,c,j,k,r7,l⟩:=l;exact⟨x7,c,j,k.y_,r7,l⟩
def kh{tb:TS}{D:iS}(b:Nat->St->Hp->Prop)(j:b 0 z H)(k:∀i z H,i<=xs.length->b i z H->ao K H a xs)(l:∀i x z H,xs[i]?=O x->b i z H->g x z H λc H2=>tb {D with nx:=b (i+1),ct:=b (i+1),bk:=D.nx} c H2) (hd:∀z H,b xs.length z H->D.nx z H):∃W:Nat->Nat->St->Hp->Prop,(∃m,W 0 m z H)/\∀i m z H,W i m z H->((iG K a).stop i H/\D.nx z H)\/((iG K a).go i H/\∃N:St->Hp->Prop,(∀d H',N d H'->∃f,f<m/\W (i+1) f d H')/\∀x H',(iG K a).fU i H x H'->g x z H' λc H2=>tb {D with nx:=N,ct:=N,bk:=D.nx} c H2):=by
 refine⟨λi m z H=>m=xs.length-i/\i<=xs.length/\b i z H,⟨xs.length,Gc,cM _,j⟩,?_⟩;rintro i m z H ⟨rfl,hi,p⟩;have q:=k i z H hi p;by_cases h:i<xs.length
 .refine .inr ⟨⟨xs,xs[i],q,by simp[h]⟩,b (i+1),λd H' n=>⟨xs.length-(i+1),Z,J,h,n⟩,λx H' y=>?_⟩;obtain⟨e,y⟩:=y;subst e;exact l i x z _ (y xs q) p
 .have e:i=xs.length:=Z;subst e;exact .inl ⟨⟨xs,q,aN _⟩,hd z H p⟩
def Rt{tb:TS}{D:iS}(b:Nat->St->Hp->Prop)(j:b 0 z H)(k:∀i z H,i<=xs.length->b i z H->aV K H a xs)(l:∀i x z H,xs[i]?=O x->b i z H->g x z H λc H2=>tb {D with nx:=b (i+1),ct:=b (i+1),bk:=D.nx} c H2) (hd:∀z H,b xs.length z H->D.nx z H):∃W:Nat->Nat->St->Hp->Prop,(∃m,W 0 m z H)/\∀i m z H,W i m z H->((j6 K a).stop i H/\D.nx z H)\/((j6 K a).go i H/\∃N:St->Hp->Prop,(∀d H',N d H'->∃f,f<m/\W (i+1) f d H')/\∀x H',(j6 K a).fU i H x H'->g x z H' λc H2=>tb {D with nx:=N,ct:=N,bk:=D.nx} c H2):=by
 refine⟨λi m z H=>m=xs.length-i/\i<=xs.length/\b i z H,⟨xs.length,Gc,cM _,j⟩,?_⟩;rintro i m z H ⟨rfl,hi,p⟩;have q:=k i z H hi p;by_cases h:i<xs.length
 .refine .inr ⟨⟨xs,xs[i],q,by simp[h]⟩,b (i+1),λd H' n=>⟨xs.length-(i+1),Z,J,h,n⟩,λx H' y=>?_⟩;obtain⟨e,y⟩:=y;subst e;exact l i x z _ (y xs q) p
 .have e:i=xs.length:=Z;subst e;exact .inl ⟨⟨xs,q,aN _⟩,hd z H p⟩
abbrev R2:=V->V->Hp->VK->Prop
def dS(X:Cx)(f:Á->Á->Sem Á)(r:R2):Prop:=∀(pins:List (À×Ó))(s:Ì)(z:St)(H:Hp)(x y:V)(v u:Á)(Q:VK),ay X pins z H s->bm x v->bm y u->r x y H Q->Ç (Í X.prog X.w) X.A (f v u) (EP X pins z Q) X.xe s
def Gs(X:Cx)(f:Á->Sem Á)(r:V->Hp->VK->Prop):Prop:=∀(pins:List (À×Ó))(s:Ì)(z:St)(H:Hp)(x:V)(v:Á)(Q:VK),ay X pins z H s->bm x v->r x H Q->Ç (Í X.prog X.w) X.A (f v) (EP X pins z Q) X.xe s
def io(X:Cx)(f:Á)(r:List V->Hp->VK->Prop):Prop:=∀(pins:List (À×Ó))(s:Ì)(z:St)(H:Hp)(xs:List V)(us:List Á)(Q:VK),ay X pins z H s->aX xs us->r xs H Q->Ç (Í X.prog X.w) X.A (call f us) (EP X pins z Q) X.xe s
def Ru(X:Cx)(r:V->Hp->(Bool->Hp->Prop)->Prop):Prop:=∀(pins:List (À×Ó))(s:Ì)(z:St)(H:Hp)(x:V)(v:Á)(Q:Bool->Hp->Prop),ay X pins z H s->bm x v->r x H Q->Ç (Í X.prog X.w) X.A (truthy v) (TP X pins z Q) X.xe s
def kT(r:R2)(ta tb:TE):TE:=λz H Q=>ta z H λx H1=>tb z H1 λy H2=>r x y H2 Q
def tUn(r:V->Hp->VK->Prop)(ta:TE):TE:=λz H Q=>ta z H λx H1=>r x H1 Q
def pI(g:Int->Int->V)(x y:V)(H:Hp)(Q:VK):Prop:=b6 (λi=>b6 (λj=>Q (g i j) H) y) x
inductive rU(g:Int->V)(x:V)(H:Hp)(Q:VK):Prop|m(i:_)(_:x=.int i)(_:Q (g i) H)
section
variable {a b:â}
def CU(d:PE X a ta)(e:PE X b tb){R:V->V->Hp->Prop}(I:ay X pins z H s)(h:ta z H λx H1=>tb z H1 λy H2=>R x y H2)  {f:Á->Á->Sem Á}(g:∀v u c x y H2,ay X pins z H2 c->bm x v->bm y u->R x y H2->Ç (Í X.prog X.w) X.A (f v u) Q X.xe c):Ç (Í X.prog X.w) X.A (Ï a X.ah) (λv i=>Ç (Í X.prog X.w) X.A (Ï b X.ah) (λu j=>Ç (Í X.prog X.w) X.A (f v u) Q X.xe j) X.xe i) X.xe s:=by
 refine aM (d pins s z H _ I h) λv k q0=>?_;obtain ⟨x,H1,l,m,n⟩:=q0;refine aM (e pins k z H1 _ l n) λu c q0=>?_;obtain ⟨y,H2,o,p,q⟩:=q0;exact g v u c x y H2 o m p q
def cJ{op:ζ}(c:dS X (ž op) r)(d:PE X a ta)(e:PE X b tb):PE X (.BinOp a op b pos) (kT r ta tb):=λpins s z H Q I h=>wpAny_BinOp<|CU d e I h λv u f x y H2 g rx ry q=>c pins f z H2 x y v u Q g rx ry q
def pJ{op:UnaryOp}{r:V->Hp->VK->Prop}(b:Gs X (unaryOp op) r)(c:PE X a ta):PE X (.UnaryOp op a pos) (tUn r ta):=λpins s z H Q I h=>UnaryOp_<|aM (c pins s z H _ I h) λv d ⟨x,H1,e,f,g⟩=>b pins d z H1 x v Q e f g
def HY{f:Á->Á->Sem Á}{g:Int->Int->Int}(ĩ:∀(i j:Int)(t u:í)(s:Ì)(Q:Á->Ì->Prop)(E:Á->Ì->Prop),Q (.int (g i j) s.toks) {s with toks:=s.toks+1}->Ç (Í X.prog X.w) X.A (f (.int i t) (.int j u)) Q E s):dS X f (pI λi j=>.int (g i j)):=by
 intro pins s z H x y v u Q I rx ry h;obtain⟨i,rfl,k⟩:=bY h;obtain⟨j,rfl,q⟩:=bY k;obtain⟨t,rfl⟩:=rx;obtain⟨t',rfl⟩:=ry;exact ĩ i j t t' s _ _ ⟨.int<|g i j,H,I.cN _,⟨_,J⟩,q⟩
def y'{f:Á->Á->Sem Á}{g:Int->Int->Bool}(ĩ:∀(i j:Int)(t u:í)(s:Ì)(Q:Á->Ì->Prop)(E:Á->Ì->Prop),Q (.bool (g i j)) s->Ç (Í X.prog X.w) X.A (f (.int i t) (.int j u)) Q E s):dS X f (pI λi j=>.bl (g i j)):=by
 intro pins s z H x y v u Q I rx ry h;obtain⟨i,rfl,k⟩:=bY h;obtain⟨j,rfl,q⟩:=bY k;obtain⟨t,rfl⟩:=rx;obtain⟨t',rfl⟩:=ry;exact ĩ i j t t' s _ _ ⟨.bl<|g i j,H,I,J,q⟩
def wk:dS X (ž .Add) (pI λi j=>.int (i+j)):=HY λ_ _ _ _ _ _ _ q=>add_int q
def za:dS X (ž .Sub) (pI λi j=>.int (i-j)):=HY λ_ _ _ _ _ _ _ q=>sub_int q
def unI{f:Á->Sem Á}{g:Int->Int}(ĩ:∀(i:Int)(t:í)(s:Ì)(Q:Á->Ì->Prop)(E:Á->Ì->Prop),Q (.int (g i) s.toks) {s with toks:=s.toks+1}->Ç (Í X.prog X.w) X.A (f (.int i t)) Q E s):Gs X f (rU λi=>.int (g i)):=by
 intro pins s z H x v Q I rx h;obtain⟨i,rfl,q⟩:=h;obtain⟨t,rfl⟩:=rx;exact ĩ i t s _ _ ⟨.int<|g i,H,I.cN _,⟨_,J⟩,q⟩
def pK:Gs X (unaryOp .USub) (rU λi=>.int (-i)):=unI λ_ _ _ _ _ q=>neg_int q
end
noncomputable def HZ:V->V->Bool
|.aQ,.aQ=>true |.aQ,.int _=>true |.int _,.aQ=>true |.aQ,.bl _=>true |.bl _,.aQ=>true |.aQ,.str _=>true |.str _,.aQ=>true
|.int _,.int _=>true |.bl _,.bl _=>true |.str _,.str _=>true |.ig _,.ig _=>true
|.int _,.str _=>true |.str _,.int _=>true |.bl _,.str _=>true |.str _,.bl _=>true
|_,_=>false
def rEq:R2:=λx y H Q=>HZ x y=true/\Q (.bl<|decide (x=y)) H
def rNe:R2:=λx y H Q=>HZ x y=true/\Q (.bl<|!decide (x=y)) H
def H_{i j:Int}:decide (V.int i=V.int j)=(i==j):=by rw[sf];simp
def Ia{i j:Bool}:decide (V.bl i=V.bl j)=(i==j):=by rw[sf];simp
def Ib{i j:Ã}:decide (V.str i=V.str j)=(i==j):=by rw[sf];simp
def Ic{i j:Array UInt8}:decide (V.ig i=V.ig j)=(i.toList==j.toList):=by
 rw[sf];cases i;cases j;simp
section
variable {a b:â}
def c9{Q:VK}{k a:Bool}(I:ay X pins z H s)(q:Q (.bl k) H)(e:k=a):EP X pins z Q (.bool a) s:=by subst e;exact⟨.bl k,H,I,J,q⟩
def e_:dS X (ó .Eq) rEq:=λpins s z H x y v u Q I rx ry h=>by
 obtain⟨a,q⟩:=h;cases x with
 |aQ=>
  cases rx;cases y with
  |aQ=>cases ry;exact Îb<|c9 I q Gc
  |bl j=>cases ry;exact Îc<|c9 I q Gc
  |int j=>obtain⟨t',rfl⟩:=ry;exact Îd<|c9 I q Gc
  |str j=>obtain⟨t',rfl⟩:=ry;exact Îe<|c9 I q Gc
  |_=>exact absurd (show false=true from a) eg
 |bl i=>
  cases rx;cases y with
  |aQ=>cases ry;exact Îf<|c9 I q Gc
  |bl j=>cases ry;exact eq_bool<|c9 I q Ia
  |str j=>obtain⟨t',rfl⟩:=ry;exact Îg<|c9 I q Gc
  |_=>exact absurd (show false=true from a) eg
 |int i=>
  obtain⟨t,rfl⟩:=rx;cases y with
  |aQ=>cases ry;exact Îh<|c9 I q Gc
  |int j=>obtain⟨t',rfl⟩:=ry;exact eq_int<|c9 I q H_
  |str j=>obtain⟨t',rfl⟩:=ry;exact Îi<|c9 I q Gc
  |_=>exact absurd (show false=true from a) eg
 |str i=>
  obtain⟨t,rfl⟩:=rx;cases y with
  |aQ=>cases ry;exact Îj<|c9 I q Gc
  |bl j=>cases ry;exact Ïa<|c9 I q Gc
  |int j=>obtain⟨t',rfl⟩:=ry;exact Ïb<|c9 I q Gc
  |str j=>obtain⟨t',rfl⟩:=ry;exact eq_str<|c9 I q Ib
  |_=>exact absurd (show false=true from a) eg
 |ig i=>
  obtain⟨t,rfl⟩:=rx;cases y with
  |ig j=>obtain⟨t',rfl⟩:=ry;exact PySem.W.eq_bytes<|c9 I q Ic
  |_=>exact absurd (show false=true from a) eg
 |_=>cases y<;>exact absurd (show false=true from a) eg
def ki:dS X (ó .NotEq) rNe:=λpins s z H x y v u Q I rx ry h=>by
 obtain⟨a,q⟩:=h;cases x with
 |aQ=>
  cases rx;cases y with
  |aQ=>cases ry;exact Ïc<|c9 I q Gc
  |bl j=>cases ry;exact Ïd<|c9 I q Gc
  |int j=>obtain⟨t',rfl⟩:=ry;exact Ïe<|c9 I q Gc
  |str j=>obtain⟨t',rfl⟩:=ry;exact Ïf<|c9 I q Gc
  |_=>exact absurd (show false=true from a) eg
 |bl i=>
  cases rx;cases y with
  |aQ=>cases ry;exact Ïg<|c9 I q Gc
  |bl j=>cases ry;exact ne_bool<|c9 I q<|cw not Ia
  |str j=>obtain⟨t',rfl⟩:=ry;exact Ïh<|c9 I q Gc
  |_=>exact absurd (show false=true from a) eg
 |int i=>
  obtain⟨t,rfl⟩:=rx;cases y with
  |aQ=>cases ry;exact Ïi<|c9 I q Gc
  |int j=>obtain⟨t',rfl⟩:=ry;exact ne_int<|c9 I q<|cw not H_
  |str j=>obtain⟨t',rfl⟩:=ry;exact Ïj<|c9 I q Gc
  |_=>exact absurd (show false=true from a) eg
 |str i=>
  obtain⟨t,rfl⟩:=rx;cases y with
  |aQ=>cases ry;exact Ða<|c9 I q Gc
  |bl j=>cases ry;exact Ðb<|c9 I q Gc
  |int j=>obtain⟨t',rfl⟩:=ry;exact Ðc<|c9 I q Gc
  |str j=>obtain⟨t',rfl⟩:=ry;exact ne_str<|c9 I q<|cw not Ib
  |_=>exact absurd (show false=true from a) eg
 |ig i=>
  obtain⟨t,rfl⟩:=rx;cases y with
  |ig j=>obtain⟨t',rfl⟩:=ry;exact PySem.W.ne_bytes<|c9 I q<|cw not Ic
  |_=>exact absurd (show false=true from a) eg
 |_=>cases y<;>exact absurd (show false=true from a) eg
def CV:dS X (ó .Lt) (pI λi j=>.bl (decide (i<j))):=y' λ_ _ _ _ _ _ _ q=>lt_int q
def ud:dS X (ó .LtE) (pI λi j=>.bl (decide (i<=j))):=y' λ_ _ _ _ _ _ _ q=>le_int q
def q0:dS X (ó .Gt) (pI λi j=>.bl (decide (j<i))):=y' λ_ _ _ _ _ _ _ q=>gt_int q
def wm:dS X (ó .GtE) (pI λi j=>.bl (decide (j<=i))):=y' λ_ _ _ _ _ _ _ q=>ge_int q
def kj:dS X (ó .Is) (λx y H Q=>y=.aQ/\Q (.bl (decide (x=.aQ))) H):=λpins s z H x y v u Q I rx ry h=>by
 obtain⟨rfl,q⟩:=h;cases ry;refine is_none_gen<|c9 I q ?_;cases x<;>first
  |(cases rx;rfl)
  |(obtain⟨t,rfl⟩:=rx;rfl)
def Rv:dS X (ó .IsNot) (λx y H Q=>y=.aQ/\Q (.bl (!decide (x=.aQ))) H):=λpins s z H x y v u Q I rx ry h=>by
 obtain⟨rfl,q⟩:=h;cases ry;refine isnot_none_gen<|c9 I q ?_;cases x<;>first
  |(cases rx;rfl)
  |(obtain⟨t,rfl⟩:=rx;rfl)
def Ie(b:â)(h:op≠.In:=by decide)(h2:op≠.NotIn:=by decide):ş op b=false:=by
 have a:(op==CmpOp.In)=false:=by cases op<;>first|rfl|exact absurd J h
 have e2:(op==CmpOp.NotIn)=false:=by cases op<;>first|rfl|exact absurd J h2
 cases b<;>simp[ş,a,e2]
def Rw(c:dS X (ó op) r)(d:PE X a ta)(e:PE X b tb)(f:ş op b=false):PE X (.Compare a [op] [b] pos) (kT r ta tb):=λpins s z H Q I h=>wpAny_Compare1 (CU d e I h λv u g x y H2 i rx ry q=>c pins g z H2 x y v u Q i rx ry q) f
def CW(t:TE):TT:=λz H Q=>t z H<|tB' Q
def Rx(d:dS X (ó op) r)(f:PE X a ta)(g:PE X b tb)(i:ş op b=false):PT X (.Compare a [op] [b] pos) (CW (kT r ta tb)):=λpins s z H Q I h=>by
 refine Åf (aM (f pins s z H _ I h) λv j ⟨x,H1,l,m,n⟩=>aM (g pins j z H1 _ l n) λu o ⟨y,H2,p,q,t⟩=>aM (d pins o z H2 x y v u _ p m q t) λc D ⟨F,w,A,B,C⟩=>?_) i;obtain⟨k,rfl,C⟩:=bf C;cases B;exact lX ⟨w,A,C⟩
def Ig'(r':R2)(tc:TE)(z:St)(Q:VK)(y:V)(F:V)(H:Hp):Prop:=bd (λk=>if k=true then tc z H λw' H4=>r' y w' H4 Q else Q (.bl false) H) F
def Ig(r r':R2)(ta tb tc:TE):TE:=λz H Q=>ta z H λx H1=>tb z H1 λy H2=>r x y H2<|Ig' r' tc z Q y
def Ry{f:CmpOp}{g:R2}(n:dS X (ó op) r)(o:dS X (ó f) g)(p:PE X a ta)(q:PE X b tb)(t:PE X c tc)(w:lastMarks [op,f] [b,c]=false:=by with_unfolding_all rfl):PE X (.Compare a [op,f] [b,c] pos) (Ig r g ta tb tc):=λpins s z H Q I h=>by
 refine Compare_chain (aM (p pins s z H _ I h) λv A ⟨x,H1,B,C,D⟩=>chain_link<|aM (q pins A z H1 _ B D) λu E ⟨y,H2,F,i,G⟩=>aM (n pins E z H2 x y v u _ F C i G) λd a1 ⟨a2,j,l,K,m⟩=>?_) w;obtain⟨k,rfl,m⟩:=bf m;cases K;refine lX ?_;cases k with
 |false=>exact ite_ff ⟨.bl false,j,l,J,m⟩
 |true=>exact ite_tt<|chain_last<|aM (t pins a1 z j _ l m) λL M ⟨N,a0,P,R,S⟩=>o pins M z a0 y N u L Q P i R S
def Rz{f:CmpOp}{g:R2}(n:dS X (ó op) r)(o:dS X (ó f) g)(p:PE X a ta)(q:PE X b tb)(t:PE X c tc)(w:lastMarks [op,f] [b,c]=false:=by with_unfolding_all rfl):PT X (.Compare a [op,f] [b,c] pos) (CW (Ig r g ta tb tc)):=λpins s z H Q I h=>by
 refine isTrue_chain (aM (p pins s z H _ I h) λv A ⟨x,H1,B,C,D⟩=>test_link<|aM (q pins A z H1 _ B D) λu E ⟨y,H2,F,i,G⟩=>aM (n pins E z H2 x y v u _ F C i G) λd a2 ⟨J,j,l,K,m⟩=>?_) w;obtain⟨k,rfl,m⟩:=bf m;cases K;refine lX ?_;cases k with
 |false=>
  obtain⟨k',L,M⟩:=bf m;cases L;exact ite_ff ⟨j,l,M⟩
 |true=>
  refine ite_tt<|test_last<|aM (t pins a2 z j _ l m) λN a0 ⟨P,R,S,T,a1⟩=>aM (o pins a0 z R y P u N _ S i T a1) λd' s5 q0=>?_;obtain⟨z2,V,W,Y,a3⟩:=q0;obtain⟨k2,rfl,a3⟩:=bf a3;cases Y;exact lX ⟨V,W,a3⟩
def Ih(K:Ñ)(x:V)(H:Hp)(k:Bool):Prop:=match x with
 |.aQ=>k=false
 |.bl b=>k=b
 |.int i=>k=(i !=0)
 |.str y=>y.length<=É/\k=((y.length:Int) !=0)
 |.ig y=>y.size<=É/\k=((y.size:Int) !=0)
 |.ref p=>(∃xs,ao K H p xs/\k=!xs.isEmpty)\/(∃xs,aV K H p xs/\k=!xs.isEmpty)\/∃ag,H p=O (.dK ag)/\k=!ag.isEmpty
 |_=>False
def RA{ag:List (κ×V)}(r:KV ag vs):(!vs.isEmpty)=!ag.isEmpty:=by cases r<;>rfl
def Ii(r:aX xs aD):(!aD.toArray.isEmpty)=!xs.isEmpty:=by cases r<;>simp
def mw:(É:Nat)<2^63:=by rw[bn];decide
def RB:Ru X (λx H Q=>∃k,Ih X.K x H k/\Q k H):=λpins s z H x v Q I rx h=>by
 obtain⟨k,e,q⟩:=h;have l:É=16777216:=bn;cases x with
 |aQ=>cases rx;have a:k=false:=e;subst a;exact truthy_none ⟨H,I,q⟩
 |bl b=>cases rx;have a:k=b:=e;subst a;exact lX ⟨H,I,q⟩
 |int i=>obtain⟨t,rfl⟩:=rx;have a:k=(i !=0):=e;subst a;exact PySem.P.truthy_int ⟨H,I,q⟩
 |str y=>obtain⟨t,rfl⟩:=rx;obtain⟨f,a⟩:y.length<=É/\k=((y.length:Int) !=0):=e;subst a;exact PySem.P.truthy_str Z ⟨H,I.cN _,q⟩
 |ig y=>obtain⟨t,rfl⟩:=rx;obtain⟨f,a⟩:y.size<=É/\k=((y.size:Int) !=0):=e;subst a;exact PySem.W.truthy_bytes Z ⟨H,I.cN _,q⟩
 |ref p=>
  cases rx;have a:(∃xs,ao X.K H p xs/\k=!xs.isEmpty)\/(∃xs,aV X.K H p xs/\k=!xs.isEmpty)\/∃ag,H p=O (.dK ag)/\k=!ag.isEmpty:=e;rcases a with⟨xs,c,a⟩|⟨xs,c,a⟩|⟨ag,c,a⟩
  .subst a;obtain⟨aD,r,pl,d⟩:=I.list c;have hlen:=r.length;exact wpAny_truthy_list pl.isList (by simp only[cx];lia) ⟨H,I.cN _,by rw[Ii r];exact q⟩
  .subst a;obtain⟨aD,r,pl,d⟩:=I.tuple c;have hlen:=r.length;exact truthy_tuple pl (by simp only[cx];lia) ⟨H,I.cN _,by rw[Ii r];exact q⟩
  .subst a;obtain⟨d,g,vs,r,m⟩:ag.length<=É/\(p==Ĉ)=false/\∃vs,KV ag vs/\s.heap.DictOf (eV X.prog X.w) p vs:=I.aF p _ c;have hlen:ag.length=vs.length:=rZ r;exact wpAny_truthy_dict g m Z ⟨H,I.cN _,by rw[RA r];exact q⟩
 |_=>exact(show False from e).elim
def zb(b:PE X a ta)(he:∀whole,ε a X.ah whole=(do let v <-whole;Ņ a.pos;ģ [v] (truthy v))):PT X a (λz H Q=>ta z H λx H'=>∃k,Ih X.K x H' k/\Q k H'):=λpins s z H Q I h=>isTrue_plain (aM (b pins s z H _ I h) λv c ⟨x,H1,d,e,f⟩=>RB pins c z H1 x v Q d e f)<|he _
def lh:dS X (ž .Add) (λx y H Q=>c2 λi j=>x=.str i/\y=.str j/\i.length+j.length<=É/\Q (.str (i++j)) H):=λpins s z H x y v u Q I rx ry h=>by obtain⟨i,j,rfl,rfl,a,q⟩:=h;obtain⟨t,rfl⟩:=rx;obtain⟨t',rfl⟩:=ry;exact add_str (λt' tk=>⟨.str (i++j),H,I.cN _,⟨_,J⟩,q⟩) a
def q_{x:V}(r:aX [x] us):∃u,us=[u]/\bm x u:=by
 cases r with
 |cons a b=>cases b;exact⟨_,J,a⟩
def RC{x:V}(r:aX [x,y] us):c2 λu a=>us=[u,a]/\bm x u/\bm y a:=by
 cases r with
 |cons b c=>
  cases c with
  |cons d e=>cases e;exact⟨_,_,J,b,d⟩
def RD(b:X.gf=true):io X (.builtin "max") (λxs H Q=>c2 λi j=>xs=[.int i,.int j]/\Q (.int (if j > i then j else i)) H):=λpins s z H xs us Q I r h=>by
 obtain⟨i,j,rfl,q⟩:=h;obtain⟨u,c,rfl,⟨t,rfl⟩,⟨t',rfl⟩⟩:=RC r;refine max_two_ints (I.ok.hd b) λh' tk k=>⟨_,H,I.cy k,?_,q⟩
 by_cases a:j > i
 .rw[aj a,aj a];exact⟨_,J⟩
 .rw[ai a,ai a];exact⟨_,J⟩
def Ij:io X (.type "str") (λxs H Q=>∃i,xs=[.int i]/\i.natAbs.log2<1920/\Q (.str (toString i)) H):=λpins s z H xs us Q I r h=>by obtain⟨i,rfl,a,q⟩:=h;obtain⟨u,rfl,t,rfl⟩:=q_ r;exact PySem.P.str_of_int a ⟨.str _,H,I.cN _,⟨_,J⟩,q⟩
def Ik:io X (.builtin "ord") (λxs H Q=>∃x,xs=[.str x]/\x.length=1/\Q (.int (x.cps.getD 0 0:Nat)) H):=λpins s z H xs us Q I r h=>by obtain⟨x,rfl,a,q⟩:=h;obtain⟨u,rfl,t,rfl⟩:=q_ r;exact ord_of_one a ⟨.int _,H,I.cN _,⟨_,J⟩,q⟩
end
structure rc(h:á)(x dx C:À)(mA:Ã->Option Á):Prop where
 obj:h.get? x=O (Ş C dx)
 ns:h.Ns1 dx mA
 ne:dx≠x
def RE(n:h.Ns1 dx mA):∃od,h.get? dx=O od/\∀name,Ϧ name od=O (mA name):=by
 obtain⟨o,es,ep,b,hd,hk,_,c⟩:=n;refine⟨o,b,λname=>?_⟩;let e:=c name;unfold nsFind findBy at e;rw[<-Array.find?_toList]at e;unfold Ϧ;rw[hd];dsimp only;split
 .rename_i y q;rw[q]at e;exact cw O e
 .rename_i q;rw[q]at e;let a:es.toList.any (·.refKey)=false:=by rw[Ôc];intro y d;obtain⟨z,t,f⟩:=hk y<|Array.mem_toList_iff.mp d;simp[DictEntry.refKey,f]
  let g:¬es.toList.any (·.refKey)=true:=by rw[a];exact eg
  rw[ai g];exact cw O e
def rc.ue{x:À}(I:rc h x dx C mA):∃od,PySem.W.InstAt h x (Ş C dx) C (O od)/\∀name,Ϧ name od=O (mA name):=let⟨od,a,b⟩:=RE I.ns;⟨od,⟨I.obj,J,J,a⟩,b⟩
section
variable {x f:À} {v:Á}
def RF{expr:Bool}(X:K.In s.heap)(I:rc s.heap x dx C mA)(a:ϧ K C name=true)(b:Áh K C=true)(c:ą K (.ref C) name=O U) (d:mA name=O v) (e:Æe v=true) (h:Q v {s with toks:=s.toks+1}):Ç (Í prog w) A (getAttr (.ref x) name expr) Q E s:=by
 obtain⟨od,z,f⟩:=I.ue;exact PySem.W.get_value X z (Ôd a).1 (PySem.W.findObj_own b c J (by rw[f,d])) e h
def RG{Q:Á×List Á->Ì->Prop}(X:K.In s.heap)(I:rc s.heap x dx C mA)(a:ϧ K C name=true)(b:ą K (.ref C) name=O (O (.ref f))) (c:ϓ K (.ref f)=true) (d:mA name=U) (h:Q (.ref f,[.ref x]) s):Ç (Í prog w) A (Ţ (.ref x) name pl) Q E s:=by
 obtain⟨od,z,e⟩:=I.ue;exact PySem.W.method_fn X z (Ôd a).1 (Ôd a).2 b (jV.mp c) (by show(Ϧ name od).map (·.isSome)=O false;rw[e,d];rfl) h
def RH{ns:List Ã}{Q:Unit->Ì->Prop}(X:K.In s.heap)(I:rc s.heap x dx C mA)(i:ą K (.ref C) "__setattr__"=O (O (.builtin "object.__setattr__"))) (j:Æf K C=true) (k:Ái K C name=O U) (l:Áh K C=true)(m:Ài mA ns) (hsz:ns.length<=É)(h:∀h',rc h' x dx C (λy=>if y=name then O v else mA y)->Ĩ dx s.heap h'->Q () {s with heap:=h',toks:=s.toks+2}):Ç (Í prog w) A (setAttr (.ref x) name v) Q E s:=by
 obtain⟨od,F,u⟩:=I.ue;refine PySem.W.set_plain X F i<|PySem.W.osa_open (s:={s with toks:=s.toks+1}) (r:=U) X F j k λb=>?_;obtain⟨z,n,o⟩:=PySem.W.any_some l;let p:s.heap.get? x=O ⟨.ref C,O dx,.plain,#[]⟩:=I.obj;refine aA<|bc<|aA<|aA<|wpAny_loadPart p (aA (Ðd (s:={s with toks:=s.toks+1}) (PySem.W.looks_clsIn X n) ?_));rw[o];refine bc (a:=O dx)<|aA<|bc<|aA ?_;refine wpAny_nsSet1 (s:={s with toks:=s.toks+1}) I.ns λh' f g=>?_;obtain⟨B,q,t,c,d,e⟩:=f.count<|Ðe name v m;refine aA<|wpAny_lookBehind c (by rw[d];exact pastItsLine_dict<|d5 e (by rw[aJ];lia)) ?_;exact bc<|h _ ⟨(g.2 _<|cB I.ne).trans I.obj,f,I.ne⟩ g
def RI{vs:List Á}(X:K.In s.heap)(a:Áj K C=true)(hi:ą K (.ref C) "__init__"=O (O (.ref f))) (b:PySem.W.typeIn K (.ref f)=O (.type "function"))(h:ŏ (Í prog w) (A.under (.builtin "type.__call__" ⟨.ref C::vs,kw⟩)) (.call (.ref f) ⟨.ref (s.heap.objs.size+1)::vs,kw⟩) (PySem.W.InitBack (s.heap.objs.size+1) R)
   {s with heap:=(s.heap.push ţ).push (Ş C s.heap.objs.size)}):ŏ (Í prog w) A (.call (.ref C) ⟨vs,kw⟩) R s:=by
 exact PySem.W.make_core (PySem.W.makes_of X a) (PySem.W.looks_findIn X hi) (λself=>PySem.W.bind_fn X self b) (.inl J) h
end
noncomputable def c_(f:Ã)(v:V):List (Ã×V)->List (Ã×V)
|[]=>[(f,v)]
|(g,x)::r=>if g=f then(g,v)::r else(g,x)::c_ f v r
theorem Il(f g:Ã)(v:V):∀fs:List (Ã×V),(c_ f v fs).lookup g=if g=f then O v else fs.lookup g
|[]=>by
 show Ť g [(f,v)]=_;by_cases h:g=f
 .let a:(g==f)=true:=jV.mpr h;simp only[Ť,a,aj h]
 .let a:(g==f)=false:=gk.mpr h;simp only[Ť,a,ai h]
|(k,x)::r=>by
 let b:=Il f g v r;rw[show c_ f v ((k,x)::r)=(if k=f then(k,v)::r else(k,x)::c_ f v r)from J];by_cases hk:k=f
 .rw[aj hk];by_cases h:g=k
  .let a:(g==k)=true:=jV.mpr h;simp only[Ť,a,aj<|h.trans hk]
  .let a:(g==k)=false:=gk.mpr h;simp only[Ť,a,ai λe:g=f=>h<|e.trans hk.symm]
 .rw[ai hk];by_cases h:g=k
  .let a:(g==k)=true:=jV.mpr h;simp only[Ť,a,ai λe:g=f=>hk<|h.symm.trans e]
  .let a:(g==k)=false:=gk.mpr h;simp only[Ť,a];exact b
theorem CY(f:Ã)(v:V):∀fs:List (Ã×V),f∈(c_ f v fs).map (·.1)/\∀g,g∈fs.map (·.1)->g∈(c_ f v fs).map (·.1)
|[]=>⟨by simp[c_],λg h=>by simp at h⟩
|(k,x)::r=>by
 obtain⟨i1,i2⟩:=CY f v r;rw[show c_ f v ((k,x)::r)=(if k=f then(k,v)::r else(k,x)::c_ f v r)from J];by_cases hk:k=f
 .rw[aj hk];subst hk;exact⟨Gc,λg h=>by simpa using h⟩
 .rw[ai hk];refine⟨?_,λg h=>?_⟩
  .rw[bz];exact f8 _ i1
  .rw[bz]at h⊢;rcases a_.mp h with e|e
   .exact a_.mpr<|.inl e
   .exact f8 _<|i2 g e
theorem Im(f:Ã)(v:V):∀fs:List (Ã×V),(c_ f v fs).length<=fs.length+1
|[]=>by simp[c_]
|(k,x)::r=>by
 have a:=Im f v r;rw[show c_ f v ((k,x)::r)=(if k=f then(k,v)::r else(k,x)::c_ f v r)from J];by_cases hk:k=f
 .rw[aj hk,aJ,aJ];lia
 .rw[ai hk,aJ,aJ];lia
def gx.zc{o:Option Á}(r:gx (O v) o):∃u,o=O u/\bm v u:=by
 cases o with
 |none=>exact(show False from r).elim
 |some u=>exact⟨u,J,r⟩
def gx.RJ{o:Option Á}(r:gx U o):o=none:=by
 cases o with
 |none=>rfl
 |some u=>exact(show False from r).elim
def RK(r:bm v u):Æe u=true:=by
 cases v with
 |aQ=>cases(show u=į from r);rfl
 |bl b=>cases(show u=Ŝ b from r);rfl
 |int i=>obtain⟨t,e⟩:=(show ∃t,u=Ÿ i t from r);cases e;rfl
 |str x=>obtain⟨t,e⟩:=(show ∃t,u=ś x t from r);cases e;rfl
 |ig b=>obtain⟨t,e⟩:=(show ∃t,u=Åa b t from r);cases e;rfl
 |BF b=>obtain⟨t,e⟩:=(show ∃t,u=Åb b t from r);cases e;rfl
 |ref a=>cases(show u=ç a from r);rfl
 |ty n=>cases(show u=Ź n from r);rfl
section
variable {fs vy:List (Ã×V)}
def CZ(aF:dv P w H h)(e:H a=O (.aO C dx fs)):∃mA,rc h a dx C mA/\(∀f,gx (fs.lookup f) (mA f))/\Ài mA (fs.map (·.1))/\fs.length<=1000/\H dx=O (.own a):=by obtain⟨d,z,ne,ob,mA,n,r,q⟩:=(show dM P w H h a (.aO C dx fs)from aF a _ e);exact⟨mA,⟨ob,n,ne⟩,r,q,z,d⟩
end
structure g9(K:Ñ)(C:À):Prop where
 pg:ϧ K C ϔ=true
 hd:Áh K C=true
 po:Æf K C=true
 sa:ą K (.ref C) "__setattr__"=O (O (.builtin "object.__setattr__"))
def g9.get(c:g9 K C)(f:Ã):ϧ K C f=true:=c.pg
def ip(K:Ñ)(C:À)(f:Ã):Prop:=ą K (.ref C) f=O U
def ip.RL(n:ip K C f):Ái K C f=O none:=by unfold Ái;rw[show ą K (.ref C) f=O U from n];rfl
structure wp(K:Ñ)(C:À)(m:Ã)(f:À):Prop where
 at_:ą K (.ref C) m=O (O (.ref f))
 fn:ϓ K (.ref f)=true
 kp:İ K (.ref f)=true
section
variable {fs:List (Ã×V)}
def Io{b:Bool}(I:ay X pins z H s)(e:H a=O (.aO C dx fs))(c:g9 X.K C)(n:ip X.K C f)(l:fs.lookup f=O v)(h:∀u s',ay X pins z H s'->bm v u->Q u s'):Ç (Í X.prog X.w) A (getAttr (.ref a) f b) Q E s:=by
 obtain⟨mA,F,r,_,_,_⟩:=CZ I.aF e;obtain⟨u,g,d⟩:=gx.zc (v:=v) (o:=mA f) (by exact(l)▸r f);exact RF I.iE F (c.get f) c.hd n g (RK d)<|h u _ (I.cN _) d
def Ip{g:À}{Q:Á×List Á->Ì->Prop}(I:ay X pins z H s)(e:H a=O (.aO C dx fs))(c:g9 X.K C)(k:wp X.K C m g)(l:fs.lookup m=U)(h:Q (.ref g,[.ref a]) s):Ç (Í X.prog X.w) A (Ţ (.ref a) m pl) Q E s:=by
 obtain⟨mA,F,r,_,_,_⟩:=CZ I.aF e;let b:mA m=none:=gx.RJ (by exact(l)▸r m);exact RG I.iE F (c.get m) k.at_ k.fn b h
def Iq{Q:Unit->Ì->Prop}(I:ay X pins z H s)(e:H a=O (.aO C dx fs))(c:g9 X.K C)(n:ip X.K C f)(t:fs.length<1000)(ry:bm y u)(h:∀s',ay X pins z (ab H a (.aO C dx (c_ f y fs))) s'->Q () s'):Ç (Í X.prog X.w) A (setAttr (.ref a) f u) Q E s:=by
 obtain⟨mA,F,r,wi,_,i⟩:=CZ I.aF e;let j:(fs.map (·.1)).length<=sizeLine:=by rw[aK,bn];lia
 refine RH I.iE F c.sa c.po n.RL c.hd wi j λh' d k=>h _ ?_;let hd:∃o,h'.get? dx=O o:=let⟨o,_,_,l,_⟩:=d.ns;⟨o,l⟩;refine I.mo (x:=a) (e:=dx) (by rw[e];exact Ő) (.inr i) (λb q m J=>(k.2 b m).trans J) hd ⟨by rw[au F.ne];exact i,?_,F.ne,d.obj,_,d.ns,λg=>?_,λg p=>?_⟩
 .let:=Im f y fs;lia
 .show gx ((c_ f y fs).lookup g)<|if g=f then O u else mA g;rw[Il];by_cases q:g=f
  .rw[aj q,aj q];exact ry
  .rw[ai q,ai q];exact r g
 .by_cases q:g=f
  .rw[q];exact(CY f y fs).1
  .refine(CY f y fs).2 g<|wi g λJ=>p ?_;show(if g=f then O u else mA g)=U;rw[ai q];exact J
def ay.made(I:ay X pins z H s):ay X pins z (ab (ab H s.heap.objs.size (.own (s.heap.objs.size+1))) (s.heap.objs.size+1) (.aO C s.heap.objs.size []))
  {s with heap:=(s.heap.push ţ).push (Ş C s.heap.objs.size)}:=by
 let c:(s.heap.push ţ).get? s.heap.objs.size=O PySem.W.emptyDict:=c7 s.heap J;let e2:((s.heap.push ţ).push<|Ş C s.heap.objs.size).get? (s.heap.objs.size+1)=O (Ş C s.heap.objs.size):=by let:=c7 (s.heap.push ţ) (o:=Ş C s.heap.objs.size) J;rwa[i_]at this
 let d:(s.heap.push ţ).Ns s.heap.objs.size (λ_=>U):=⟨ţ,#[],_,c,J,λe f=>absurd f Gc,λ_=>J⟩;let g:=I.fH (a:=s.heap.objs.size) (o:=.own (s.heap.objs.size+1)) (h':=s.heap.push ţ) (t':=s.toks) (λb u q=>b_ _ q) (aN _) ⟨_,c⟩;refine g.fH (a:=s.heap.objs.size+1) (o:=.aO C s.heap.objs.size []) (t':=s.toks) (λb u q=>b_ _ q) (FR<|i_ _ _) ?_;let ne:s.heap.objs.size≠s.heap.objs.size+1:=gm<|FS _;refine⟨by rw[au ne,aq],cM _,ne,e2,λ_=>U,(Heap.Ns1.of_empty d).at λo q=>b_ _ q,λ_=>Ő,λy h=>absurd J h⟩
def RM(a:Ċ e f ah (Ï e ah)=Ï e ah)(h:Ç (Í prog w) A (Ï e ah) (λo b=>Ç (Í prog w) A (getAttr o f true) Q E b) E s):Ç (Í prog w) A (Ï (.Attribute e f pos) ah) Q E s:=Attribute_any_ h (by rw[arm_eval_Attribute,a])
end
inductive cm(K:Ñ)(f:Ã)(Q:VK)(H1:Hp)(a:À):Prop|m(C dx fs v:_)(_:H1 a=O (.aO C dx fs))(_:g9 K C)(_:ip K C f)(_:fs.lookup f=O v)(_:Q v H1)
def wq'(K:Ñ)(f:Ã)(Q:VK)(x:V)(H:Hp):Prop:=bt (cm K f Q H) x
def wq(K:Ñ)(ta:TE)(f:Ã):TE:=λz H Q=>ta z H<|wq' K f Q
inductive cs(K:Ñ)(f:Ã)(D:iS)(z:St)(y:V)(H2:Hp)(a:À):Prop|m(C dx fs:_)(_:H2 a=O (.aO C dx fs))(_:g9 K C)(_:ip K C f)(_:fs.length<1000)(_:D.nx z (ab H2 a (.aO C dx (c_ f y fs))))
def C0'(K:Ñ)(f:Ã)(D:iS)(z:St)(y:V)(x:V)(H:Hp):Prop:=bt (cs K f D z y H) x
def C0(K:Ñ)(ta tv:TE)(f:Ã):TS:=λD z H=>tv z H λy H1=>ta z H1<|C0' K f D z y
def Ir(X:Cx)(op:ζ)(rd:V->V->Hp->VK->Prop):Prop:=∀(pins:List (À×Ó))(s:Ì)(z:St)(H:Hp)(x y:V)(u v:Á)(Q:VK),ay X pins z H s->bm x u->bm y v->rd x y H Q->Ç (Í X.prog X.w) X.A (Áe op u v) (EP X pins z Q) X.xe s
def RN(K:Ñ)(ta tv:TE)(rd:V->V->Hp->VK->Prop)(f:Ã):TS:=λD z H=>ta z H λx H1=>c0 λa C dx fs v=>x=.ref a/\H1 a=O (.aO C dx fs)/\g9 K C/\ip K C f/\fs.lookup f=O v/\tv z H1 λy H2=>rd v y H2 λF H3=>c2 λbB vy=>H3 a=O (.aO C bB vy)/\vy.length<1000/\D.nx z (ab H3 a<|.aO C bB<|c_ f F vy)
def Iu(he:PE X e ta)(b:Ċ e f X.ah (Ï e X.ah)=Ï e X.ah):PE X (.Attribute e f pos) (wq X.K ta f):=λpins s z H Q I h=>by refine RM b<|aM (he pins s z H _ I h) λu k q0=>?_;obtain⟨x,H1,d,rx,q⟩:=q0;obtain⟨a,rfl,C,dx,fs,v,g,c,n,l,q⟩:=bX q;obtain rfl:u=ç a:=rx;exact Io d g c n l λm o i j=>⟨v,H1,i,j,q⟩
def RO(b:PE X o ta)(d:PE X value tv)(e:ō value (O (.Attribute o f pos')) pos.line X.ah=pure false):PS X (.Assign [.Attribute o f pos'] value pos) (C0 X.K ta tv f):=λpins s z H D I h=>by refine plainObj_wpAny_Assign_Attribute (aM (d pins s z H _ I h) λu g ⟨y,H1,i,ry,q⟩=>aM (b pins g z H1 _ i q) λj t ⟨x,H2,k,rx,p⟩=>?_) e;obtain⟨a,rfl,C,dx,fs,m,c,n,l,p⟩:=bX p;obtain rfl:j=ç a:=rx;exact Iq k m c n l ry λv r=>⟨z,_,r,p⟩
def Iv{op:ζ}{rd:V->V->Hp->VK->Prop}(e:PE X o ta)(g:PE X value tv)(b:Ir X op rd):PS X (.AugAssign (.Attribute o f ub) op value pos) (RN X.K ta tv rd f):=λpins s z H D I h=>by refine wpAny_AugAssign_AttributeAny<|aM (e pins s z H _ I h) λi L q0=>?_;obtain⟨x,H1,j,rx,a,C,dx,fs,v,ex,k,c,n,l,q⟩:=q0;subst ex;obtain rfl:i=ç a:=rx;exact Io j k c n l λu m p r=>aM (g pins m z H1 _ p q) λt w ⟨y,H2,A,ry,B⟩=>aM (b pins w z H2 v y u t _ A r ry B) (by rintro M N ⟨J,a0,E,F,P,vy,d,G,a1⟩;exact Iq E d c n G F λQ K=>⟨z,_,K,a1⟩)
inductive RP(x y:V)(H:Hp)(Q:VK):Prop|m(i j:_)(_:x=.int i)(_:y=.int j)(_:Q (.int (i+j)) H)
def Iw:Ir X .Add RP:=by rintro pins s z H x y u v Q I rx ry ⟨i,j,rfl,rfl,q⟩;obtain⟨t,rfl⟩:=(show ∃t,u=Ÿ i t from rx);obtain⟨t',rfl⟩:=(show ∃t',v=Ÿ j t' from ry);exact Åi ⟨.int (i+j),H,I.cN _,⟨_,J⟩,q⟩
structure cO(k:Nat)(A:ń):Prop where
 hd:A.handled=U
 dp:A.depth+3*k+5<recursionLimit
 un:A.units+16*k+200<Ĥ
def cO.dE{k:Nat}(r:cO k A)(h:j<=k):cO j A:=⟨r.hd,by let:=r.dp;lia,by let:=r.un;lia⟩
def cO.deeper{k:Nat}(r:cO (k+1) A)(ah:Ă):cO k (A.deeper ah):=⟨r.hd,by let:=r.dp;show A.depth+1+3*k+5<_;lia,by let:=r.un;show A.units+3+16*k+200<_;lia⟩
def RQ:(A.under (.builtin "type.__call__" ⟨.ref C::us,kw⟩)).depth=A.depth+1:=by first|rfl|simp[Âa,ı.weight,ı.isCreation,ı.isGuard,ı.isCaller,ı.frames,ı.isFrame,guardIds]
def RR:(A.under (.builtin "type.__call__" ⟨.ref C::us,kw⟩)).units=A.units+1:=by first|rfl|simp[Âa,ı.cUnits,ı.frames,ı.isFrame]
def cO.C1{k:Nat}(r:cO (k+1) A)(C:À)(us:List Á)(kw:List (Ã×Á)):cO k (A.under (.builtin "type.__call__" ⟨.ref C::us,kw⟩)):=⟨r.hd,by let:=r.dp;rw[RQ];lia,by let:=r.un;rw[RR];lia⟩
def cO.depth{k:Nat}(r:cO k A):A.depth<recursionLimit:=by let:=r.dp;lia
def cO.units{k:Nat}(r:cO k A):A.units+64<cLine:=by let:=r.un;lia
def dF:TA:=λ_ H Q=>Q [] H
def dN(ta:TE)(tr:TA):TA:=λz H Q=>ta z H λx H1=>tr z H1 λxs H2=>Q (x::xs) H2
section
variable {t:TA}
def cW:PA X [] dF:=λ_ _ _ _ H Q I h=>Bg ⟨[],H,I,.nil,h⟩
def bx(a:PE X e te)(b:PA X es t)(c:Ð (e::es) X.ah=(false,Ï e X.ah)::Ð es X.ah:=by rfl):PA X (e::es) (dN te t):=λpos pins s z H Q I h=>by
 rw[c];show Ç _ _ (spliced<|(false,Ï e X.ah)::æ pos (Ð es X.ah)) _ _ s;refine sh<|aM (a pins s z H _ I h) λu d q0=>?_;obtain⟨x,H1,f,g,i⟩:=q0;exact aM (b pos pins d z H1 _ f i) (by rintro us m ⟨xs,H2,j,k,l⟩;exact ⟨x::xs,H2,j,.cons g k,l⟩)
def RS(t:TA):TE:=λz H Q=>t z H λxs H1=>xs.length<=É/\∀p,H1 p=U->Q (.ref p) (ab H1 p<|.be xs)
def RT(t:TA):TE:=λz H Q=>t z H λxs H1=>xs.length<=É/\∀p,H1 p=U->Q (.ref p) (ab H1 p<|.ae xs)
def pL{d}(h:PA X es t):PE X (.Tuple es d pos) (RS t):=λpins s z H Q I f=>by refine wpAny_Tuple_spliced<|aM (h pos pins s z H _ I f) λus a ⟨xs,H1,c,r,F,q⟩=>⟨by exact(r.length)▸F,?_⟩;let g:H1 a.heap.objs.size=none:=c.aF.fresh<|aN _;refine⟨.ref a.heap.objs.size,ab H1 a.heap.objs.size<|.be xs,c.fH (t':=a.toks) (λb u e=>b_ _ e) (aN _) ?_,J,q _ g⟩;exact⟨F,us,r,⟨_,c7 _ J,J,_,J⟩⟩
def bH(h:PA X es t):PE X (.List es pos) (RT t):=λpins s z H Q I d=>by refine wpAny_List_spliced<|aM (h pos pins s z H _ I d) λus a ⟨xs,H1,c,r,F,q⟩=>⟨by exact(r.length)▸F,?_⟩;let f:H1 a.heap.objs.size=none:=c.aF.fresh<|aN _;refine⟨.ref a.heap.objs.size,ab H1 a.heap.objs.size<|.ae xs,c.fH (t':=a.toks) (λb u e=>b_ _ e) (aN _) ?_,J,q _ f⟩;exact⟨F,us,0,r,c7 _ J⟩
end
abbrev Sp:=List V->Hp->VK->XK->Prop
abbrev sV:=List Ă->Hp->Ì->XK->Á->Ì->Prop
structure re(P:ò)(w:è)(K:Ñ)(mg:Ã->Option Á)(base:á)(A:ń)(b0:List Ă)(s:Ì)(H:Hp):Prop where
 frames:A.frames=O b0
 mod:Mod K mg base
 bs:∀b o,base.get? b=O o->s.heap.get? b=O o/\H b=U
 pp:base.objs.size<=s.heap.objs.size
 j9:s.heap.FunFrames base b0
 sR:∀b∈kS b0,H b=U
 aF:dv P w H s.heap
 fI:Ż s.gens
inductive CE(b0:List Ă)(P:ò)(w:è)(H:Hp)(s:Ì)(Q:VK)(u:Á)(s':Ì):Prop|m(v H':_)(_:s'.os=s.os)(_:Ż s'.gens)(_:Un (kS b0) [] H H' s.heap s'.heap)(_:dv P w H' s'.heap)(_:bm v u)(_:Q v H')
def CR(CX:sV)(b0:List Ă)(P:ò)(w:è)(H:Hp)(s:Ì)(Q:VK)(E:XK)(r:Result)(s':Ì):Prop:=match r with
 |.ok (.ret u)=>CE b0 P w H s Q u s'
 |.ok _=>False
 |.error e=>CX b0 H s E e s'
structure fY(P:ò)(w:è)(K:Ñ)(mg:Ã->Option Á)(base:á)(CX:sV)(k:Nat)(f:À)(fd:θ)(ps:List Ã)(sp:Sp):Prop where
 len:∀vs H Q E,sp vs H Q E->vs.length=ps.length
 run:∀(A:ń)(b0:List Ă)(s:Ì)(H:Hp)(args:Args)(us:List Á)(vs:List V)(Q:VK)(E:XK),cO k A->re P w K mg base A b0 s H->ι s fd args (ps.zip us)->aX vs us->sp vs H Q E->
  codeAny (Í P w) A (.call (.ref f) args) (CR CX b0 P w H s Q E) s
def fY.dE{k:Nat}{f:À}(F:fY P w K mg base CX j f fd ps sp)(h:j<=k):fY P w K mg base CX k f fd ps sp:=⟨F.len,λA b0 s H args us vs Q E a=>F.run A b0 s H args us vs Q E<|a.dE h⟩
def re.C1(e:re P w K mg base A b0 s H)(C:À)(us:List Á)(kw:List (Ã×Á)):re P w K mg base (A.under (.builtin "type.__call__" ⟨.ref C::us,kw⟩)) b0 s H:=⟨by first|exact e.frames |(simpa[Âa,ı.envs,ı.isFrame,pushEnvs]using e.frames),e.mod,e.bs,e.pp,e.j9,e.sR,e.aF,e.fI⟩
def ay.Ix(I:ay X pins z H s):re X.prog X.w X.K X.mg X.base X.A X.stack s H:=⟨I.ok.frames,I.ok.mod,I.bs,d5 I.ok.pp I.sz,I.stack,I.HI,I.aF,I.fI⟩
def ay.after{Q:VK}(I:ay X pins z H s)(h:CE X.stack X.prog X.w H s Q u s'):EP X pins z Q u s':=by obtain⟨v,H',os,fI,un,aF,r,q⟩:=h;obtain⟨c,g,d,t,a⟩:=s';obtain rfl:a=s.os:=os;exact⟨v,H',I.call (h':=c) (g':=g) (d':=d) (t':=t) (ch:=[]) un aF fI λb F=>absurd F Gc,r,q⟩
def rg(sp:Sp)(f_:List V)(E:XK)(t:TA):TE:=λz H Q=>t z H λvs H1=>sp (vs++f_) H1 Q E
inductive cA(C:À)(m:Ã)(sp:Sp)(f_:List V)(E:XK)(t:TA)(z:St)(Q:VK)(H1:Hp)(a:À):Prop|m(dx fs:_)(_:H1 a=O (.aO C dx fs))(_:fs.lookup m=U)(_:t z H1 λvs H2=>sp (.ref a::(vs++f_)) H2 Q E)
def oa'(C:À)(m:Ã)(sp:Sp)(f_:List V)(E:XK)(t:TA)(z:St)(Q:VK)(x:V)(H:Hp):Prop:=bt (cA C m sp f_ E t z Q H) x
def oa(C:À)(m:Ã)(sp:Sp)(f_:List V)(E:XK)(ta:TE)(t:TA):TE:=λz H Q=>ta z H<|oa' C m sp f_ E t z Q
def zd(C:À)(sp:Sp)(f_:List V)(E:XK)(t:TA):TE:=λz H Q=>t z H λvs H1=>∀x dx,H1 x=U->H1 dx=U->dx≠x->sp (.ref x::(vs++f_)) (ab (ab H1 dx<|.own x) x<|.aO C dx []) (λv H2=>v=.aQ/\Q (.ref x) H2) E
def jn(K:Ñ)(fd:θ)(ps:List Ã)(ds:List Á):Prop:=∀(s:Ì)(us:List Á),K.In s.heap->(us++ds).length=ps.length->ι s fd ⟨us,[]⟩ (ps.zip (us++ds))
def jn.all(h:∀us:List Á,us.length=ps.length->ϕ fd ⟨us,[]⟩=pure (ps.zip us)):jn K fd ps []:=λs us _ a=>by rw[jW]at a⊢;exact .of_eq<|h us a
def pM(CX:sV)(X:Cx)(E:XK):Prop:=∀(pins:List (À×Ó))(z:St)(H:Hp)(s:Ì)(e:Á)(s':Ì),ay X pins z H s->CX X.stack H s E e s'->X.xe e s'
section
variable {k:Nat} {f:À} {ds:List Á} {E:XK} {t:TA}
def ze{Q:VK}{vs:List V}(F:fY X.prog X.w X.K X.mg X.base CX k f fd ps sp)(c:cO k X.A)(d:jn X.K fd ps ds)(hd:aX f_ ds)(g:pM CX X E)(I:ay X pins z H s) (r:aX vs us) (h:sp (vs++f_) H Q E):Ç (Í X.prog X.w) X.A (call (.ref f) us) (EP X pins z Q) X.xe s:=by
 let b:aX (vs++f_) (us++ds):=r.append hd;let i:(us++ds).length=ps.length:=by exact(b.length)▸F.len _ _ _ _ h
 refine wpAny_call<|FT (F.run X.A X.stack s H ⟨us,[]⟩ (us++ds) (vs++f_) Q E c I.Ix (d s us I.iE i) b h) λr s' a=>?_;cases r with
 |error e=>exact g pins z H s e s' I a
 |ok fl=>
  cases fl with
  |ret u=>exact I.after a
  |next|brk|cont=>exact ņ a
def RU(F:fY X.prog X.w X.K X.mg X.base CX k f fd ps sp)(b:cO k X.A)(c:Gl X x)(d:X.mg x=O (.ref f))(hk:İ X.K (.ref f)=true)(g:jn X.K fd ps ds)(hd:aX f_ ds)(i:pM CX X E)(j:PA X (e::es) t) (l:(x==("__debug__":Ã))=false:=by decide) (he:Ð (e::es) X.ah=(false,Ï e X.ah)::Ð es X.ah:=by rfl) (dJ:(æ pos (Ð es X.ah)).any (·.1)=false:=by rfl):PE X (.Call (.Name x p) (e::es) [] pos) (rg sp f_ E t):=by
 intro pins s z H Q I h;refine u_<|yX I c d ?_ l;refine FU (h₀:=X.base) I.ok.mod.vp hk (aM (j pos pins s z H _ I h) λus m ⟨vs,H1,a,r,q⟩=>⟨a.iE,?_⟩) he dJ;exact ze F b g hd i a r q
def RV(he:PE X o ta)(c:g9 X.K C)(b:wp X.K C m f)(F:fY X.prog X.w X.K X.mg X.base CX k f fd ps sp)(j:cO k X.A)(n:jn X.K fd ps ds)(hd:aX f_ ds)(p:pM CX X E)(v:PA X (e::es) t)(w:Ð (e::es) X.ah=(false,Ï e X.ah)::Ð es X.ah:=by rfl) (dJ:(æ pos (Ð es X.ah)).any (·.1)=false:=by rfl)(y:Ï (.Call (.Attribute o m apos) (e::es) [] pos) X.ah=(do
   let d <-Ï o X.ah
   Ņ apos.atName
   let(f,first) <-ģ [d] (Ţ d m pl)
   μ pos f first (æ pos (Ð (e::es) X.ah)) (Ė pos (ė [] X.ah))):=by rfl):PE X (.Call (.Attribute o m apos) (e::es) [] pos) (oa C m sp f_ E ta t):=by
 intro pins s z H Q I h;refine aeX (pl:=pl) (aM (he pins s z H _ I h) λu a0 ⟨x,H1,g,rx,q⟩=>?_) y;obtain⟨a,rfl,dx,fs,A,l,q⟩:=bX q;obtain rfl:u=ç a:=rx;refine Ip g A c b l ?_;refine FU (first:=[.ref a]) (h₀:=X.base) I.ok.mod.vp b.kp (aM (v pos pins a0 z H1 _ g q) λus D ⟨vs,H2,i,r,B⟩=>⟨i.iE,?_⟩) w dJ;exact ze (us:=.ref a::us) (vs:=.ref a::vs) F j n hd p i (.cons J r) B
def RW(he:PE X o ta)(c:g9 X.K C)(d:wp X.K C m f)(F:fY X.prog X.w X.K X.mg X.base CX k f fd ps sp)(g:cO k X.A)(i:jn X.K fd ps ds)(hd:aX f_ ds)(j:pM CX X E)(n:Ï (.Call (.Attribute o m apos) [] [] pos) X.ah=(do
   let e <-Ï o X.ah;Ņ apos.atName;let(f,first) <-ģ [e] (Ţ e m pl);μ pos f first (æ pos (Ð [] X.ah)) (Ė pos (ė [] X.ah))):=by rfl):PE X (.Call (.Attribute o m apos) [] [] pos) (oa C m sp f_ E ta dF):=λpins s z H Q I h=>by
 refine aeX (pl:=pl) (aM (he pins s z H _ I h) λu r ⟨x,H1,b,rx,q⟩=>?_) n;obtain⟨a,rfl,dx,fs,p,l,q⟩:=bX q;obtain rfl:u=ç a:=rx;exact Ip b p c d l (aeY (first:=[.ref a]) b.iE d.kp (ze (us:=[.ref a]) (vs:=[.ref a]) F g i hd j b (.cons J .nil) q))
structure Mk(K:Ñ)(C f:À):Prop where
 makes:Áj K C=true
 init:ą K (.ref C) "__init__"=O (O (.ref f))
 fn:ϓ K (.ref f)=true
 kp:İ K (.ref C)=true
def Iy{Q:VK}{vs:List V}(M:Mk X.K C f)(F:fY X.prog X.w X.K X.mg X.base CX k f fd ps sp)(g:cO (k+1) X.A)(i:jn X.K fd ps ds)(hd:aX f_ ds)(j:pM CX X E) (I:ay X pins z H s) (r:aX vs us)(h:∀x dx,H x=U->H dx=U->dx≠x->sp (.ref x::(vs++f_)) (ab (ab H dx (.own x)) x (.aO C dx [])) (λv H2=>v=.aQ/\Q (.ref x) H2) E):Ç (Í X.prog X.w) X.A (call (.ref C) us) (EP X pins z Q) X.xe s:=by
 let c:=h (s.heap.objs.size+1) s.heap.objs.size (I.aF.fresh<|Nat.le_succ _) (I.aF.fresh<|aN _)<|gm<|FS _;let b:=ay.made (C:=C) I;let d:aX (V.ref (s.heap.objs.size+1)::(vs++f_)) (ç (s.heap.objs.size+1)::(us++ds)):=.cons J<|r.append hd;let l:(ç (s.heap.objs.size+1)::us++ds).length=ps.length:=by
  let e:=d.length;rw[F.len _ _ _ _ c]at e;exact e.symm
 refine wpAny_call (RI (f:=f) I.iE M.makes M.init (jV.mp M.fn)<|FT (F.run _ X.stack _ _ ⟨ç (s.heap.objs.size+1)::us,[]⟩ (ç (s.heap.objs.size+1)::(us++ds)) _ _ E (g.C1 C us [])
  (b.Ix.C1 C us []) (i _ (ç (s.heap.objs.size+1)::us) b.iE l) d c) λr s' a=>?_)
 cases r with
 |error e=>exact j pins z _ _ e s' b a
 |ok fl=>
  cases fl with
  |ret u=>
   obtain⟨v,H',m,n,o,p⟩:=b.after a;subst o;exact⟨n,⟨V.ref (s.heap.objs.size+1),H',m,J,p⟩⟩
  |next|brk|cont=>exact ņ a
def RX(M:Mk X.K C f)(F:fY X.prog X.w X.K X.mg X.base CX k f fd ps sp)(b:cO (k+1) X.A)(c:Gl X x)(d:X.mg x=O (.ref C))(g:jn X.K fd ps ds)(hd:aX f_ ds)(i:pM CX X E)(j:PA X (e::es) t) (l:(x==("__debug__":Ã))=false:=by decide) (he:Ð (e::es) X.ah=(false,Ï e X.ah)::Ð es X.ah:=by rfl) (dJ:(æ pos (Ð es X.ah)).any (·.1)=false:=by rfl):PE X (.Call (.Name x p) (e::es) [] pos) (zd C sp f_ E t):=by
 intro pins s z H Q I h;refine u_<|yX I c d ?_ l;refine FU (h₀:=X.base) I.ok.mod.vp M.kp (aM (j pos pins s z H _ I h) λus m ⟨vs,H1,a,r,q⟩=>⟨a.iE,?_⟩) he dJ;exact Iy M F b g hd i a r q
def RY(M:Mk X.K C f)(F:fY X.prog X.w X.K X.mg X.base CX k f fd ps sp)(a:cO (k+1) X.A)(b:Gl X x)(c:X.mg x=O (.ref C))(d:jn X.K fd ps ds)(hd:aX f_ ds)(e:pM CX X E)(g:(x==("__debug__":Ã))=false:=by decide):PE X (.Call (.Name x p) [] [] pos) (zd C sp f_ E dF):=λpins s z H Q I h=>by
 refine u_<|yX I b c ?_ g;exact aeY I.iE M.kp (Iy (us:=[]) M F a d hd e I .nil h)
end
def PK(X:Cx)(kws:List Ę)(t:TA):Prop:=∀(pos:Pos)(pins:List (À×Ó)) s z H Q,ay X pins z H s->t z H Q->Ç (Í X.prog X.w) X.A (evalAll ((Ė pos<|ė kws X.ah).map (·.2))) (AP X pins z Q) X.xe s
section
variable {k:Nat} {f:À} {E:XK} {t tk:TA}
def RZ:PK X [] dF:=λ_ _ _ _ H Q I h=>wpAny_evalAll_nil ⟨[],H,I,.nil,h⟩
def R0(a:PE X e te)(b:PK X kws t):PK X (⟨nm,e,kpos⟩::kws) (dN te t):=λpos pins s z H Q I h=>by show Ç _ _ (evalAll ((do let v <-Ï e X.ah;Ņ pos;pure v)::(Ė pos<|ė kws X.ah).map (·.2))) _ _ s;refine wpAny_evalAll_cons<|aA<|aM (a pins s z H _ I h) λu c ⟨x,H1,d,f,g⟩=>aA<|FQ<|bc ?_;exact aM (b pos pins c z H1 _ d g) (by rintro us l ⟨xs,H2,i,j,k⟩;exact ⟨x::xs,H2,i,.cons f j,k⟩)
variable {g:List Á->List Á->List Á}
end
structure rh(N P:List Ã)(sc:Ō):Prop where
 kind:sc.kind=.function
 co:sc.isCoroutine=false
 gen:sc.isGenerator=false
 nd:N.Nodup
 pre:N.take P.length=P
 par:∀x∈P,sc.names.lookup x=O .local\/sc.names.lookup x=O .cell
 R3:∀y∈sc.names,y.2≠.free
theorem Iz{ù:Ã->Option đ}{x:Ã}:∀{og:List (Ã×Á)}{m:Ã->Option Á},(∀v,(x,v)∉og)->ť ù og m x=m x
|[],_,_=>rfl
|(n,v)::r,m,h=>by
 unfold ť;rw[Iz λw a=>h w<|f8 _ a];split
 .let:x≠n:=by rintro rfl;exact h v kN
  simp[this]
 .rfl
theorem IA{ù:Ã->Option đ}{x:Ã}:∀{og:List (Ã×Á)}{m:Ã->Option Á},(∀v,(x,v)∉og)->Ŧ ù og m x=m x
|[],_,_=>rfl
|(n,v)::r,m,h=>by
 unfold Ŧ;rw[IA λw a=>h w<|f8 _ a];split
 .rfl
 .let:x≠n:=by rintro rfl;exact h v kN
  simp[this]
theorem IB{ù:Ã->Option đ}{x:Ã}{v:Á}:∀{P:List Ã}{vs:List Á}{i:Nat}{m:Ã->Option Á},P.Nodup->P[i]?=O x->vs[i]?=O v->ù x=O .local->ť ù (P.zip vs) m x=O v
|[],_,_,_,_,h,_,_|_::_,[],_,_,_,_,h,_=>by simp at h
|p::P,w::vs,0,m,nd,h1,h2,hk=>by
 simp at h1 h2;subst h1;subst h2;show ť ù ((p,w)::P.zip vs) m p=_;unfold ť;rw[Iz λv a=>(si.mp nd).1 (Ôe a).1,aj hk];simp
|p::P,w::vs,i+1,m,nd,h1,h2,hk=>by show ť ù ((p,w)::P.zip vs) m x=_;exact IB (i:=i) (si.mp nd).2 (by simpa using h1) (by simpa using h2) hk
theorem IC{ù:Ã->Option đ}{x:Ã}{v:Á}:∀{P:List Ã}{vs:List Á}{i:Nat}{m:Ã->Option Á},P.Nodup->P[i]?=O x->vs[i]?=O v->ù x≠O .local->Ŧ ù (P.zip vs) m x=O v
|[],_,_,_,_,h,_,_|_::_,[],_,_,_,_,h,_=>by simp at h
|p::P,w::vs,0,m,nd,h1,h2,hk=>by
 simp at h1 h2;subst h1;subst h2;show Ŧ ù ((p,w)::P.zip vs) m p=_;unfold Ŧ;rw[IA λv a=>(si.mp nd).1 (Ôe a).1,ai hk];simp
|p::P,w::vs,i+1,m,nd,h1,h2,hk=>by show Ŧ ù ((p,w)::P.zip vs) m x=_;exact IC (i:=i) (si.mp nd).2 (by simpa using h1) (by simpa using h2) hk
def start(N:List Ã)(vs:List V):St:=vs.map O++ϖ (N.length-vs.length) U
noncomputable def rj(CX:sV)(P:ò)(w:è)(K:Ñ)(mg:Ã->Option Á)(base:á)(N:List Ã)(qual:Ã)(scope:Ō)(f:À)(cd:Á)(A:ń)(b0:List Ă)(s:Ì)(H:Hp)(E:XK):Cx where
 prog:=P
 w:=w
 K:=K
 mg:=mg
 base:=base
 A:=A.deeper<|Ň qual scope s.heap.objs.size f cd
 N:=N
 gW:=s
 sP:=H
 ah:=Ň qual scope s.heap.objs.size f cd
 b0:=b0
 stack:=Ň qual scope s.heap.objs.size f cd::b0
 ex:=[]
 gf:=true
 fn:=λ_=>true
 pn:=[]
 xe:=λe s'=>Ç (Í P w) (A.deeper<|Ň qual scope s.heap.objs.size f cd) (leaving (Ň qual scope s.heap.objs.size f cd) e) (λ_ oW=>CX b0 H s E e oW) (λe' oW=>CX b0 H s E e' oW) s'
def ID(h:sc.names.lookup x=O .cell):∃c,(ý n sc.names []).lookup x=O c:=by let q:=aeZ sc.names n []<|.inl h;exact ae0.mp q
def R4{f:À}{l:Á}{o:Ì}{E}{vs:List V}(S:rh N ps scope) (hd:A.handled=U) (d:re P w K mg base A b0 s H) (F:vs.length=ps.length) (r:aX vs us)(x:InCallC s s.heap.objs.size (ť (Ň qual scope s.heap.objs.size f l).kindOf (ps.zip us) λ_=>U) (ý (s.heap.objs.size+1) scope.names []) (Ŧ (Ň qual scope s.heap.objs.size f l).kindOf (ps.zip us) λ_=>U) o):ay (rj CX P w K mg base N qual scope f l A b0 s H E) [] (start N vs) H o:=by
 have dJ:ps.length<=N.length:=by have:=cw ő S.pre;rw[eh]at this;lia
 obtain⟨h1,tk,rfl,hk⟩:=x.done;have m:∀b,b∉(rj CX P w K mg base N qual scope f l A b0 s H E).ex:=λb z=>absurd (show b∈([]:List À)from z) Gc;refine⟨⟨d.mod,S.kind,J,J,aN _,λy z c h1 h2=>?_,λy g=>?_,λy c _ h=>?_,λ_=>hd,Around.frames_deeper d.frames,.inr ⟨J,J⟩,λb z=>absurd z<|m b,d.bs,d.pp,λb _ _=>m b,λb z=>absurd z<|m b,d.j9,d.sR⟩,rfl,d.fI,Un.cy hk,⟨_,x.toInCall.ns,λi y v h1 h2 G=>?_⟩,λy c h=>⟨_,x.cell y c h⟩,d.aF.fresh<|aN _,λy c h=>?_,λp j=>absurd (show p∈([]:List (À×Ó))from j) Gc,d.aF.cy hk,?_⟩
 .exact name_of_addr x.apart (jx h1)<|jx h2
 .have g:scope.names.lookup y=O .cell\/scope.names.lookup y=O .free:=g;rcases g with g|g
  .exact ID g
  .exact absurd J<|S.R3 _<|jx g
 .exact Óh<|x.above y c<|jx h
 .have hi:i<vs.length:=by
   unfold start at h2;by_cases hi:i<vs.length
   .exact hi
   .rw[lY (by simpa using hi)]at h2;rw[List.getElem?_replicate]at h2
    split at h2<;>cases h2
  have C:vs[i]?=O v:=by
   unfold start at h2;rw[jX (by simpa using hi),aR]at h2;cases e:vs[i]? with
   |none=>rw[e]at h2;cases h2
   |some a=>rw[e]at h2;cases h2;rfl
  obtain⟨u,t,D⟩:=r.get C;have j:ps[i]?=O y:=by
   rw[<-S.pre,List.getElem?_take_of_lt Z];exact h1
  have B:ps.Nodup:=by rw[<-S.pre];exact S.nd.sublist<|List.take_sublist _ _
  refine⟨u,D,?_⟩;rcases S.par y (bM j)with k|k
  .exact .inl ⟨k,IB B j t k⟩
  .obtain⟨c,e⟩:=ID k;refine .inr ⟨.inl k,c,e,?_⟩;have q:=x.cell y c e;rw[IC B j t (by show scope.names.lookup y≠_;rw[k];decide)]at q;exact q
 .exact d.aF.fresh<|Óh<|x.above y c<|jx h
 .unfold start;show _=N.length;rw[bw,aK,ae1];lia
def R5{f:À}{params}{dV kV doc pm cC ct oc:Á}{an od:Option À}{kU:Array (Option Á)}   (p:K.lookup f=O ⟨oc,od,.func (Ī name qual params body scope dV kV doc pm an cC ct),kU⟩) (z:ν K cC qual=true) (S:rh N ps scope)(len:∀vs H Q E,sp vs H Q E->vs.length=ps.length)(B:∀A b0 s H vs Q E,cO k (A.deeper (Ň qual scope s.heap.objs.size f cC))->sp vs H Q E->∃t,iF (rj CX P w K mg base N qual scope f cC A b0 s H E) body t/\t {nx:=λ_ H'=>Q .aQ H',rt:=Q} (start N vs) H):fY P w K mg base CX (k+1) f (Ī name qual params body scope dV kV doc pm an cC ct) ps sp:=by
 refine⟨len,λA b0 s H args us vs Q E g c C r j=>?_⟩;let D:=len _ _ _ _ j;let l:K.In s.heap:=c.mod.vp.keeps λb o e=>(c.bs b o e).1;let h:s.heap.NoLimit:=c.mod.nolimit.keeps λb o e=>(c.bs b o e).1;let F:∀y∈ps.zip us,scope.names.lookup y.1=O .local\/(scope.names.lookup y.1=O .cell/\((ý (s.heap.objs.size+1) scope.names []).lookup y.1).isSome=true):=λ⟨n,v⟩ G=>by
  rcases S.par n (Ôe G).1 with q|q
  .exact .inl q
  .exact .inr ⟨q,aeZ _ _ _<|.inl q⟩
 refine codeAny_call_function g.depth (l _ _ p) J S.co S.gen J (PySem.W.codeRec_of l z)<|C _ _ _ _ ?_;refine wpAny_newFunctionEnv_cells S.kind F λah L m x=>?_;subst L;refine⟨h.keeps x.toInCall.keep,codeAny_func ?_⟩;obtain⟨t,M,a0⟩:=B A b0 s H vs Q E (g.deeper _) j;let I:ay (rj CX P w K mg base N qual scope f cC A b0 s H E) [] (start N vs) H m:=R4 S g.hd c D r x;refine iZ (M [] m (start N vs) H _ I a0) (λfl s' a=>?_) λe s' a=>a;let fin:∀{d:St}{H':Hp}{v:V}{u:Á},ay (rj CX P w K mg base N qual scope f cC A b0 s H E) [] d H' s'->bm v u->Q v H'->CE b0 P w H s Q u s':=
  λ{d H' v u} a1 i q=>⟨v,H',a1.os,a1.fI,a1.base,a1.aF,i,q⟩
 cases fl with
 |ret u=>
  obtain⟨v,d,H',a1,i,q⟩:=a;exact fin a1 i q
 |next=>
  obtain⟨d,H',a1,q⟩:=a;exact fin (v:=V.aQ) a1 J q
 |brk|cont=>
  obtain⟨_,_,_,q⟩:=a;exact ņ q
section
variable {t:TA} {id:String} {r:List V->Hp->VK->Prop}
def xV(r:List V->Hp->VK->Prop)(t:TA):TE:=λz H Q=>t z H λvs H1=>r vs H1 Q
def eF(a:io X (.builtin id) r)(b:Gl X x)(c:X.mg x=U)(d:ź x=O (.builtin id))(f:PA X (e::es) t)(g:x≠"__name__":=by decide)(i:(x==("__debug__":Ã))=false:=by decide)(he:Ð (e::es) X.ah=(false,Ï e X.ah)::Ð es X.ah:=by rfl) (dJ:(æ pos (Ð es X.ah)).any (·.1)=false:=by rfl):PE X (.Call (.Name x p) (e::es) [] pos) (xV r t):=λpins s z H Q I h=>by
 refine u_<|n8 I b c d ?_ g i;exact Ðf (aM (f pos pins s z H _ I h) (by rintro us j ⟨vs,H1,k,l,m⟩;exact a pins j z H1 vs us Q k l m)) he dJ
def rl(a:io X (.type T) r)(b:Gl X x)(c:X.mg x=U)(d:ź x=O (.type T))(f:PA X (e::es) t)(g:x≠"__name__":=by decide)(i:(x==("__debug__":Ã))=false:=by decide)(he:Ð (e::es) X.ah=(false,Ï e X.ah)::Ð es X.ah:=by rfl) (dJ:(æ pos (Ð es X.ah)).any (·.1)=false:=by rfl):PE X (.Call (.Name x p) (e::es) [] pos) (xV r t):=λpins s z H Q I h=>by
 refine u_<|n8 I b c d ?_ g i;exact u9 (aM (f pos pins s z H _ I h) λus j ⟨vs,H1,k,l,m⟩=>a pins j z H1 vs us Q k l m) he dJ
end
namespace HT
open PySem PyProof.Rows
def R7{vs ws:List Á}(ht:ŝ s.heap t vs.toArray)(hb:ŝ s.heap b ws.toArray)(hv:vs≠[])(h1:ws=[]->Q (.ref t) s) (h2:ws≠[]->Q (.ref s.heap.objs.size) {s with heap:=s.heap.push {cls:=.type "tuple",data:=.seq (vs++ws).toArray}})(hsz:vs.length+ws.length<=É):Ç (Í prog w) A (ž .Add (.ref t) (.ref b)) Q E s:=by
 obtain⟨⟨cls,dd,data,sl⟩,ho,hc,n,hd⟩:=id ht;obtain⟨⟨afw,Pd,data2,xW⟩,BO,BP,n2,hd2⟩:=id hb;simp only at hc hd BP hd2;subst hc hd BP hd2;let e:vs.toArray++ws.toArray=(vs++ws).toArray:=Gc;by_cases hw:ws=[]
 .exact concat_meets ⟨_,ho,J⟩ ⟨_,BO,J⟩ Æg seq_tuple_add ae2 ae3 (ae4 _ _)
   (tuple_addW1 t b vs.toArray ws.toArray n n2 dd Pd sl xW (by simpa using hv) (by simp[hw])) ⟨ho,BO,h1 hw⟩
 .refine concat_meets ⟨_,ho,J⟩ ⟨_,BO,J⟩ Æg seq_tuple_add ae2 ae3 (ae4 _ _)
   (tuple_addW2 t b vs.toArray ws.toArray n n2 dd Pd sl xW (by simpa using hv) (by simpa using hw) (cx▸cx▸hsz)) ⟨ho,BO,?_⟩
  rw[e];exact h2 hw
def bi(n d:Nat):Option Int->Nat
|none=>d
|some v=>if v<0 then(v+(n:Int)).toNat else min v.toNat n
def mx(n d k:Nat):bi n d (O (k:Int))=min k n:=by show(if k<0 then(k+(n:Int)).toNat else min (k:Int).toNat n)=min k n;rw[ai Z,sj]
def C3(n d:Nat)(hd:d<=n)(o:Option Int):bi n d o<=n:=by
 cases o with
 |none=>exact hd
 |some v=>
  show(if v<0 then(v+(n:Int)).toNat else min v.toNat n)<=n;by_cases a:v<0
  .rw[aj a];lia
  .exact ai a▸Nat.min_le_right _ _
def IE(v:Int)(n d:Nat):(if v<0 then max (v+(n:Int)) 0 else min v (n:Int))=((bi n d (O v):Nat):Int):=by
 show(if v<0 then max (v+(n:Int)) 0 else min v n)=(((if v<0 then(v+(n:Int)).toNat else min v.toNat n):Nat):Int);by_cases a:v<0
 .simp only[aj a];lia
 .simp only[ai a];lia
def R8(lo hi:Option Int)(n:Nat):Âb lo hi 1 (n:Int)=(((bi n 0 lo:Nat):Int),((bi n n hi:Nat):Int)):=by
 let h1:¬(1<0):=Z;unfold Âb;simp only[h1,i'];refine Prod.ext ?_ ?_
 .cases lo with
  |none=>rfl
  |some v=>exact IE v n 0
 .cases hi with
  |none=>rfl
  |some v=>exact IE v n n
def R9(i j:Nat):Ϩ (i:Int) (j:Int) 1=j-i:=by
 unfold Ϩ;let h1:(1:Int) > 0:=Z;simp only[h1,fi,Int.ediv_one];split<;>lia
def IF{v:Á}{o:Option Int}{Q:Option Int->Ì->Prop}(p:IsPart v o)(h:Q o s):Ç (Í prog w) A (Ðg v) Q E s:=by
 cases p with
 |none=>exact slicePart_none h
 |int i t=>exact slicePart_int h
def R_{a b:Á}{lo hi:Option Int}{Q:Int×Int×Nat->Ì->Prop}(e:s.heap.IsSliceOf sl a b .none)(pl:IsPart a lo)(f:IsPart b hi)(h:Q (((bi n 0 lo:Nat):Int),1,bi n n hi-bi n 0 lo) s):Ç (Í prog w) A (Æh (.ref sl) (pure (n:Int))) Q E s:=by
 obtain⟨os,c,g,d⟩:=id e;refine aA (aA (ja c d J (aA (ja c d J (aA (ja c d J (bc ?_)))))));refine aA (slicePart_none ?_);rw[ai gn];refine aA (IF pl (aA (IF f (aA (bc ?_)))));show Ç _ _ (match Âb lo hi 1 (n:Int)with |(lo,hi)=>pure (lo,(1:Int),Ϩ lo hi 1)) _ _ s;rw[R8 lo hi n];show Ç _ _ (pure (((bi n 0 lo:Nat):Int),1,Ϩ ((bi n 0 lo:Nat)) ((bi n n hi:Nat)) 1)) _ _ s;rw[R9];exact bc h
def Sa(xs:Array Á)(i k:Nat):((ø k).filterMap λ(m:Nat)=>xs[((i:Int)+(m:Int)*1).toNat]?).toArray=((xs.toList.drop i).take k).toArray:=by
 have e:(λ(m:Nat)=>xs[(i+(m:Int)*1).toNat]?)=λm=>xs[i+m]?:=by
  funext m;let:(i+(m:Int)*1).toNat=i+m:=Z
  rw[this]
 rw[e];let:=pick_run xs i k;rw[List.filterMap_map]at this;have e2:((λx=>xs[x]?)∘λx=>i+x)=λm=>xs[i+m]?:=J;rw[e2]at this;rw[this]
def Sb{d e:Á}{lo hi:Option Int}(a:ŝ s.heap t items)(f:s.heap.IsSliceOf sl d e .none)(pl:IsPart d lo)(g:IsPart e hi)(i:¬(bi items.size 0 lo=0/\bi items.size items.size hi=items.size))(h:Q (.ref s.heap.objs.size) {s with heap:=s.heap.push {cls:=.type "tuple",data:=.seq ((items.toList.drop (bi items.size 0 lo)).take (bi items.size items.size hi-bi items.size 0 lo)).toArray}})(hsz:items.size<=É):Ç (Í prog w) A (Ŏ (.ref t) (.ref sl)) Q E s:=by
 let b:sizeOk (.seq ((items.toList.drop<|bi items.size 0 lo).take<|bi items.size items.size hi-bi items.size 0 lo).toArray):=by
  show((items.toList.drop<|bi items.size 0 lo).take<|bi items.size items.size hi-bi items.size 0 lo).toArray.size<=É;rw[cx,eh,ib,qw];omega
 obtain⟨os,j,k,o⟩:=id f;let c:s.TypeIs (.ref sl) "slice":=⟨os,j,k⟩
 unfold Ŏ
 try with_reducible refine oI ?_
 first|refine aA (bc ?_)|skip
 refine aA<|wpAny_sequenceKey a.typeIs gn ?_;refine aA<|va a.typeIs Oj
 <|mO Oj a.typeIs entry_tuple_getitem ?_<|args_tuple_getitem _ _
 show Ç _ _ (Ði (.ref t)>>=_) _ _ s;refine aA<|tupleItemsOf_ a ?_;refine aA<|wpAny_typeOf c ?_;rw[aj gn];refine aA<|R_ f pl g ?_;let l:¬((((bi items.size 0 lo:Nat):Int)==0&&(1:Int)==1&&(bi items.size items.size hi-bi items.size 0 lo)==items.size)=true):=by
  intro q;rw[aS,aS]at q;exact i ⟨Z,Z⟩
 show Ç _ _ (if(((bi items.size 0 lo:Nat):Int)==0&&(1:Int)==1&&(bi items.size items.size hi-bi items.size 0 lo)==items.size)=true then _ else _) _ _ s;rw[ai l,Sa]
 first
  |exact aA<|lZ (bc ⟨_,J,bc h⟩) b
  |exact aA<|lZ (aA<|bc<|bc ⟨_,J,bc h⟩) b
  |exact aA (aA<|lZ (bc<|bc ⟨_,J,bc h⟩) b)
  |exact aA (aA<|lZ (bc ⟨_,J,bc h⟩) b)
end HT
abbrev TO:=St->Hp->(Option Int->Hp->Prop)->Prop
def PO(X:Cx)(e:Option â)(t:TO):Prop:=∀pins s z H Q,ay X pins z H s->t z H Q->Ç (Í X.prog X.w) X.A (evalPart e X.ah) (λu s'=>c2 λo H'=>ay X pins z H' s'/\IsPart u o/\Q o H') X.xe s
def Sc:TO:=λ_ H Q=>Q U H
inductive Sd'(Q:Option Int->Hp->Prop)(x:V)(H1:Hp):Prop|m(i:_)(_:x=.int i)(_:Q (O i) H1)
def Sd(t:TE):TO:=λz H Q=>t z H<|Sd' Q
section
variable {lo:Option â} {tl:TO}
def uf:PO X U Sc:=λpins s z H Q I h=>by rw[evalPart_none];exact bc ⟨U,H,I,.none,h⟩
def km(h:PE X e te):PO X (O e) (Sd te):=λpins s z H Q I hw=>by
 rw[evalPart_some];refine aM (h pins s z H _ I hw) λu d q0=>?_;obtain ⟨x,H1,a,b,c⟩:=q0;obtain⟨i,rfl,q⟩:=c;obtain⟨t,rfl⟩:=b;exact⟨O i,H1,a,.int i t,q⟩
def BQ(X:Cx)(r:V->Option Int->Option Int->Hp->VK->Prop):Prop:=∀pins s z H x v vl vu lo hi sl Q,ay X pins z H s->bm x v->s.heap.IsSliceOf sl vl vu .none->IsPart vl lo->IsPart vu hi->r x lo hi H Q->c2 λT id=>ξ (.type T) "__getitem__"=pure (O<|.builtin id)/\s.TypeIs v T/\Ç (Í X.prog X.w) X.A (Ŏ v<|.ref sl) (EP X pins z Q) X.xe s
def tSl(r:V->Option Int->Option Int->Hp->VK->Prop)(te:TE)(tl th:TO):TE:=λz H Q=>te z H λx H1=>tl z H1 λl H2=>th z H2 λu H3=>r x l u H3 Q
def oh{r:V->Option Int->Option Int->Hp->VK->Prop}(g:BQ X r)(he:PE X e te)(i:PO X lo tl)(j:PO X hi th):PE X (.Subscript e (.Slice lo hi U p2) pos) (tSl r te tl th):=λpins s z H Q I h=>by
 refine Âc<|aM (he pins s z H _ I h) λv k q0=>?_;obtain⟨x,H1,m,n,o⟩:=q0;refine wpAny_Slice<|aM (i pins k z H1 _ m o) λc p ⟨l,H2,t,pl,w⟩=>aM (j pins p z H2 _ t w) λd a q0=>?_;obtain⟨u,f,y,F,A⟩:=q0;rw[evalPart_none];refine bc ?_;let B:ay X pins z f {a with heap:=a.heap.push {cls:=.type "slice",data:=.fields #[c,d,.none]}}:=y.cy λb ob q=>b_ _ q;obtain⟨T,id,C,D,E⟩:=g pins {a with heap:=a.heap.push {cls:=.type "slice",data:=.fields #[c,d,.none]}} z f x v c d l u a.heap.objs.size Q B n (Ðj ..) pl F A;exact tail_any D C E (by with_unfolding_all rfl)
def fL(xs:List V)(lo hi:Option Int):List V:=(xs.drop<|HT.bi xs.length 0 lo).take<|HT.bi xs.length xs.length hi-HT.bi xs.length 0 lo
def IG(xs:List V)(lo hi:Option Int):(fL xs lo hi).length<=xs.length:=by unfold fL;rw[eh,ib];omega
inductive Se(K:Ñ)(x:V)(lo hi:Option Int)(H:Hp)(Q:VK):Prop|m(a xs:_)(_:x=.ref a)(_:aV K H a xs)(_:¬(HT.bi xs.length 0 lo=0/\HT.bi xs.length xs.length hi=xs.length))(_:∀p,H p=U->Q (.ref p) (ab H p<|.be<|fL xs lo hi))
def C4:BQ X (Se X.K):=λpins s z H x v i j lo hi sl Q I rx e pl pu h=>by
 obtain⟨a,xs,rfl,f,g,q⟩:=h;cases rx;obtain⟨aD,r,c,d⟩:=I.tuple f;let hlen:aD.toArray.size=xs.length:=cx▸r.length.symm;refine⟨"tuple",_,Oj.lookup,c.typeIs,?_⟩;refine HT.Sb c e pl pu (hlen▸g) ?_ (hlen▸d);rw[hlen];refine⟨.ref s.heap.objs.size,_,I.fH (λb ob q=>b_ _ q) (aN _) ?_,J,q _<|I.aF.fresh<|aN _⟩;exact⟨d5 (IG xs lo hi) d,_,(r.drop<|HT.bi xs.length 0 lo).take<|HT.bi xs.length xs.length hi-HT.bi xs.length 0 lo,Âe _ _⟩
inductive Sf(K:Ñ)(x y:V)(H:Hp)(Q:VK):Prop|m(a b xs ys:_)(_:x=.ref a)(_:y=.ref b)(_:aV K H a xs)(_:aV K H b ys)(_:xs≠[])(_:xs.length+ys.length<=É)(_:(ys=[]->Q (.ref a) H))(_:(ys≠[]->∀p,H p=U->Q (.ref p) (ab H p<|.be (xs++ys))))
def aX.C5(r:aX xs us):us=[]↔xs=[]:=by
 cases r with
 |nil|cons _ _=>simp
def C6:dS X (ž .Add) (Sf X.K):=λpins s z H x y v u Q I rx ry h=>by
 obtain⟨a,b,xs,ys,rfl,rfl,f,g,i,e,j,k⟩:=h;cases rx;cases ry;obtain⟨aD,d,l,_⟩:=I.tuple f;obtain⟨m,c,p2,_⟩:=I.tuple g;refine HT.R7 l p2 (λF=>i<|d.C5.mp F) (λF=>⟨.ref a,H,I,J,j<|c.C5.mp F⟩) (λF=>?_) (d.length▸c.length▸e);refine⟨.ref s.heap.objs.size,_,I.fH (λb ob q=>b_ _ q) (aN _) ?_,J,k (λw=>F<|c.C5.mpr w) _<|I.aF.fresh<|aN _⟩;exact⟨bw▸e,_,d.append c,Âe _ _⟩
end
noncomputable def kY(n:Nat)(i:Int):Option Nat:=if 0<=i then(if i<n then O i.toNat else U)else if -(n:Int)<=i then O (i+n).toNat else U
def gX(xs:List α)(i:Int):Option α:=(kY xs.length i).bind λj=>xs[j]?
def IH{i:Int}(h:kY n i=O j):Ϫ i n=O j/\j<n/\-(n:Int)<=i/\i<n:=by
 unfold kY at h;by_cases h0:0<=i
 .rw[aj h0]at h;by_cases h1:i<n
  .rw[aj h1]at h;have e:i.toNat=j:=cZ h;exact⟨by rw[FW h0 h1,e],Z,Z,h1⟩
  .rw[ai h1]at h;cases h
 .rw[ai h0]at h;by_cases h1: -(n:Int)<=i
  .rw[aj h1]at h;have e:(i+n).toNat=j:=cZ h;exact⟨by rw[FX Z h1,e],Z,h1,Z⟩
  .rw[ai h1]at h;cases h
def zg{xs:List α}{i:Int}{v:α}(h:gX xs i=O v):∃j,Ϫ i xs.length=O j/\xs[j]?=O v/\j<xs.length/\-(xs.length:Int)<=i/\i<xs.length:=by
 unfold gX at h;cases e:kY xs.length i with
 |none=>rw[e]at h;cases h
 |some j=>rw[e]at h;obtain⟨h1,h2,a,b⟩:=IH e;exact⟨j,h1,h,h2,a,b⟩
def cb{xs:List α}{v:α}(h:xs[j]?=O v):gX xs (j:Int)=O v:=by
 have a:j<xs.length:=(b9.mp h).1;have e:kY xs.length j=O j:=by unfold kY;rw[aj Z,aj Z];simp
 unfold gX;exact e▸h
def wu(b:â):Prop:=∀o i,ϫ b false o i=operate [o,i] (Ŏ o i)
def vA(X:Cx)(r:R2):Prop:=∀value slice pins s z H x y v u Q,ay X pins z H s->bm x v->bm y u->r x y H Q->ϫ slice false v u=operate [v,u] (Ŏ v u)->Ç (Í X.prog X.w) X.A (Âd value slice v u) (EP X pins z Q) X.xe s
def iI(X:Cx)(id:String)(r:V->List V->Hp->VK->Prop):Prop:=∀(pins:List (À×Ó)) s z H x xs v us Q,ay X pins z H s->bm x v->aX xs us->r x xs H Q->Ç (Í X.prog X.w) X.A (call (.builtin id) (v::us)) (EP X pins z Q) X.xe s
section
variable {a b:â}
def ug(c:vA X r)(d:PE X a ta)(e:PE X b tb)(f:wu b):PE X (.Subscript a b pos) (kT r ta tb):=λpins s z H Q I h=>Âc<|CU d e I h λv u g x y H2 i rx ry q=>c a b pins g z H2 x y v u Q i rx ry q<|f _ _
inductive cP(K:Ñ)(H:Hp)(Q:VK)(p:À)(i:Int):Prop|m(xs v:_)(_:ao K H p xs)(_:gX xs i=O v)(_:Q v H)
def wv(K:Ñ)(x y:V)(H:Hp)(Q:VK):Prop:=bt (λp=>b6 (cP K H Q p) y) x
inductive cR(K:Ñ)(H:Hp)(Q:VK)(p:À)(i:Int):Prop|m(xs v:_)(_:aV K H p xs)(_:gX xs i=O v)(_:Q v H)
def C7(K:Ñ)(x y:V)(H:Hp)(Q:VK):Prop:=bt (λp=>b6 (cR K H Q p) y) x
inductive II(x y:V)(H:Hp)(Q:VK):Prop|m(z i c:_)(_:x=.str z)(_:y=.int i)(_:z.length<=É)(_:gX z.cps.toList i=O c)(_:Q (.str ⟨#[c]⟩) H)
def IJ:vA X (wv X.K):=λvalue slice pins s z H x y v u Q I rx ry h b=>by
 obtain⟨p,rfl,h⟩:=bX h;obtain⟨i,rfl,xs,F,d,e,q⟩:=bY h;cases rx;obtain⟨t,rfl⟩:=ry;obtain⟨aD,r,pl,m⟩:=I.list d;obtain⟨j,h1,h2,n,f,g⟩:=zg e;obtain⟨w,c,k⟩:=r.get h2;have l:=r.length;let o:=mw;let fin:EP X pins z Q w s:=⟨F,H,I,k,q⟩;by_cases h0:0<=i
 .let a:i.toNat=j:=by rw[FW h0 g]at h1;exact cZ h1
  exact item_listR pl.isList h0 Z (by rw[a];simpa using c) fin b
 .let a:(i+(aD.toArray.size:Int)).toNat=j:=by rw[FX Z f]at h1;exact cx▸l▸cZ h1
  exact Æi pl.isList.typeIs Æj.lookup
   (Ça pl.isList Z (by rw[cx]<;>lia) Z (by rw[a];simpa using c) ⟨J,fin⟩) b
def IK:vA X (C7 X.K):=λvalue slice pins s z H x y v u Q I rx ry h a=>by
 obtain⟨p,rfl,h⟩:=bX h;obtain⟨i,rfl,xs,F,b,c,q⟩:=bY h;cases rx;obtain⟨t,rfl⟩:=ry;obtain⟨aD,r,pl,g⟩:=I.tuple b;obtain⟨j,h1,h2,k,l,m⟩:=zg c;have⟨w,d,e⟩:=r.get h2;let f:=r.length;let n:=mw;let fin:EP X pins z Q w s:=⟨F,H,I,e,q⟩;exact Æi pl.typeIs slot_tuple_getitem.lookup
  (getItem_tuple pl Z Z (cx▸f▸h1) (by simpa using d) ⟨J,fin⟩) a
def Sg:vA X II:=λvalue slice pins s z H x y v u Q I rx ry h a=>by
 obtain⟨F,i,c,rfl,rfl,k,b,q⟩:=h;obtain⟨t,rfl⟩:=rx;obtain⟨t',rfl⟩:=ry;obtain⟨j,h1,h2,l,d,e⟩:=zg b;have f:F.cps.toList.length=F.length:=by simp[Str.length]
 rw[f]at h1 d e;have m:=mw;exact tail_any (jY s F t) slot_str_getitem.lookup (getItem_str (by have g:decide (i < -(2^63:Int))=false:=bO Z;have e2:decide (i>=2^63)=false:=bO Z;rw[g,e2,xB]) (by rw[h1];simpa using h2) ⟨.str ⟨#[c]⟩,H,I.cN _,⟨_,J⟩,q⟩) a
def Sh(aD:List Á)(n j:Nat)(u:Á):ο (·.setIfInBounds j u) {cls:=.type "list",data:=.seq aD.toArray n}={cls:=.type "list",data:=.seq (aD.set j u).toArray n}:=by simp[ο]
def ay.ae{p:À}(I:ay X pins z H s)(h:H p=O (.ae xs)):c2 λ(aD:List Á)(n:Nat)=>aX xs aD/\s.heap.get? p=O {cls:=.type "list",data:=.seq aD.toArray n}/\xs.length<=sizeLine:=by
 obtain⟨F,aD,n,r,e⟩:=I.aF p _ h;exact⟨aD,n,r,e,F⟩
def ay.Si{p:À}{ys:List V}{its':List Á}{n':Nat}{f:Ó->Ó}(I:ay X pins z H s)(h:H p=O (.ae xs))(ho:s.heap.get? p=O {cls:=.type "list",data:=.seq aD.toArray n}) (hf:f {cls:=.type "list",data:=.seq aD.toArray n}={cls:=.type "list",data:=.seq its'.toArray n'}) (r:aX ys its') (hz:ys.length<=É) (t:Nat):ay X pins z (ab H p (.ae ys)) {s with heap:=s.heap.update p f,toks:=t}:=by
 let e:(s.heap.update p f).get? p=O {cls:=.type "list",data:=.seq its'.toArray n'}:=by
  rw[Heap.get?_update_self f ho (by rw[hf]<;>rfl),hf]
 refine I.mo (by rw[h];trivial) (.inl J) (λb u hb q=>(Heap.get?_update_other _ _<|Ne.symm hb).trans q) ⟨_,e⟩ ?_;exact⟨hz,its',n',r,e⟩
inductive Sj(o i v:V)(H:Hp)(Q:Hp->Prop):Prop|m(p xs k j:_)(_:o=.ref p)(_:i=.int k)(_:H p=O (.ae xs))(_:kY xs.length k=O j)(_:Q (ab H p<|.ae<|xs.set j v))
def C8:CM X Sj:=λpins s z H o i v x y u Q I ro g l h=>by
 obtain⟨p,xs,k,j,rfl,rfl,c,m,q⟩:=h;cases ro;obtain⟨t,rfl⟩:=g;obtain⟨aD,n,r,a,w⟩:=I.ae c;obtain⟨h1,h2,d,e⟩:=IH m;let b:=r.length;let F:=mw;let f:ay X pins z (ab H p<|.ae<|xs.set j v) {s with heap:=s.heap.update p (ο (·.setIfInBounds j u))}:=
  I.Si c a (Sh aD n j u) (r.set l j) (by rw[FY];exact w) s.toks
 by_cases h0:0<=k
 .let hk:k.toNat=j:=by rw[FW h0 e]at h1;exact cZ h1
  exact PySem.W.ki_setAt a h0 Z (cx▸b▸e) (hk▸⟨_,f,q⟩)
 .let hk:(k+(aD.toArray.size:Int)).toNat=j:=by rw[FX Z d]at h1;exact cx▸b▸cZ h1
  exact PySem.W.ki_setBack a Z (cx▸b▸d) Z (hk▸⟨_,f,q⟩)
def Sk(lo hi:Option Int)(n:Nat):(ſ lo hi U n).1=((HT.bi n 0 lo:Nat):Int)/\(ſ lo hi U n).2.1=((HT.bi n n hi:Nat):Int)/\(ſ lo hi U n).2.2=1:=by
 refine⟨?_,?_,J⟩
 .cases lo with
  |none=>simp[ſ,HT.bi]
  |some i=>
   simp only[ſ,HT.bi,Option.getD_none,show 1 > 0 by decide,fi];by_cases h:i<0
   .simp only[h,fi]<;>lia
   .simp only[h,i']<;>lia
 .cases hi with
  |none=>simp[ſ,HT.bi]
  |some i=>
   simp only[ſ,HT.bi,Option.getD_none,show 1 > 0 by decide,fi];by_cases h:i<0
   .simp only[h,fi]<;>lia
   .simp only[h,i']<;>lia
def Sn(aD:List Á)(lo hi:Option Int):slicePick aD.toArray lo hi U=((aD.drop (HT.bi aD.length 0 lo)).take (HT.bi aD.length aD.length hi-HT.bi aD.length 0 lo)).toArray:=by obtain⟨h1,h2,a⟩:=Sk lo hi aD.toArray.size;unfold slicePick;rw[h1,h2,a];simp only[sliceRange_one,pick_run,cx]<;>rfl
inductive So(K:Ñ)(x:V)(lo hi:Option Int)(H:Hp)(Q:VK):Prop|m(a xs:_)(_:x=.ref a)(_:ao K H a xs)(_:∀p,H p=U->Q (.ref p) (ab H p<|.ae<|fL xs lo hi))
def zh:BQ X (So X.K):=λpins s z H x v g i lo hi sl Q I rx d pl pu h=>by
 obtain⟨a,xs,rfl,e,q⟩:=h;cases rx;obtain⟨aD,r,c,f⟩:=I.list e;let hlen:=r.length;refine⟨"list",_,Æj.lookup,c.isList.typeIs,?_⟩;refine wpAny_getItem_list_slice c.isList d pl pu .none Gc ?_ (by rw[cx]<;>omega);rw[Sn,<-hlen];refine⟨.ref s.heap.objs.size,_,I.fH (λb ob q=>b_ _ q) (aN _) ?_,J,q _<|I.aF.fresh<|aN _⟩;exact⟨d5 (IG xs lo hi) f,_,0,(r.drop<|HT.bi xs.length 0 lo).take<|HT.bi xs.length xs.length hi-HT.bi xs.length 0 lo,c7 _ J⟩
def my:V->Bool
|.aQ|.bl _|.int _|.str _=>true
|_=>false
noncomputable def jg:V->V->Bool
|.aQ,.aQ=>true
|.bl a,.bl b|.int a,.int b|.str a,.str b=>a==b
|.bl a,.int b=>(if a then 1 else 0)==b
|.int a,.bl b=>a==(if b then 1 else 0)
|_,_=>false
def Su{x:V}{v:Á}(ry:bm y u)(rx:bm x v)(d:my y=true)(c:my x=true):SeqAt.EqAt A s u v (jg y x):=by
 cases y with
 |aQ=>
  cases ry;cases x with
  |aQ=>cases rx;exact SeqAt.EqAt.same _
  |bl b=>cases rx;exact SeqAt.EqAt.none_bool b
  |int b=>obtain⟨t,rfl⟩:=rx;exact SeqAt.EqAt.none_int b t
  |str b=>obtain⟨t,rfl⟩:=rx;exact SeqAt.EqAt.none_str b t
  |_=>exact absurd (show false=true from c) eg
 |bl a=>
  cases ry;cases x with
  |aQ=>cases rx;exact SeqAt.EqAt.bool_none a
  |bl b=>cases rx;exact SeqAt.EqAt.bool_bool a b
  |int b=>obtain⟨t,rfl⟩:=rx;exact SeqAt.EqAt.bool_int a b t
  |str b=>obtain⟨t,rfl⟩:=rx;exact SeqAt.EqAt.bool_str a b t
  |_=>exact absurd (show false=true from c) eg
 |int a=>
  obtain⟨t',rfl⟩:=ry;cases x with
  |aQ=>cases rx;exact SeqAt.EqAt.int_none a t'
  |bl b=>cases rx;exact SeqAt.EqAt.int_bool a t' b
  |int b=>obtain⟨t,rfl⟩:=rx;exact SeqAt.EqAt.int_int a t' b t
  |str b=>obtain⟨t,rfl⟩:=rx;exact SeqAt.EqAt.int_str a t' b t
  |_=>exact absurd (show false=true from c) eg
 |str a=>
  obtain⟨t',rfl⟩:=ry;cases x with
  |aQ=>cases rx;exact SeqAt.EqAt.str_none a t'
  |bl b=>cases rx;exact SeqAt.EqAt.str_bool a t' b
  |int b=>obtain⟨t,rfl⟩:=rx;exact SeqAt.EqAt.str_int a t' b t
  |str b=>obtain⟨t,rfl⟩:=rx;exact SeqAt.EqAt.str_str a t' b t
  |_=>exact absurd (show false=true from c) eg
 |_=>exact absurd (show false=true from d) eg
def jC(x:V)(u:Á):Bool:=match u with
 |.none=>jg .aQ x
 |.bool b=>jg (.bl b) x
 |.int i _=>jg (.int i) x
 |.str z _=>jg (.str z) x
 |_=>false
def IL{x:V}(r:bm y u)(f:my y=true):jC x u=jg y x:=by
 cases y with
 |aQ|bl b=>cases r;rfl
 |int i|str z=>obtain⟨t,rfl⟩:=r;rfl
 |_=>exact absurd (show false=true from f) eg
theorem ww{x:V}:∀{xs:List V}{us:List Á},aX xs us->xs.all my=true->us.any (jC x)=xs.any λy=>jg y x
|_,_,.nil=>λ_=>rfl
|y::xs,u::us,.cons r t=>λf=>by rw[d7,aS]at f;rw[kP,kP,IL r f.1,ww t f.2]
theorem wx{A:ń}{s:Ì}{x:V}{v:Á}(rx:bm x v)(b:my x=true):∀{xs:List V}{us:List Á},aX xs us->xs.all my=true->∀u∈us,SeqAt.EqAt A s u v (jC x u)
|_,_,.nil,_=>λu a=>by cases a
|y::xs,u::us,.cons r t,f=>λc a=>by
 rw[d7,aS]at f;rcases a_.mp a with rfl|a
 .rw[IL r f.1];exact Su r rx f.1 b
 .exact wx rx b t f.2 c a
def d8(x:V)(xs:List V):Bool:=xs.any λy=>jg y x
inductive BR(K:Ñ)(neg:Bool)(x y:V)(H:Hp)(Q:VK):Prop|m(p xs:_)(_:y=.ref p)(_:(ao K H p xs\/aV K H p xs))(_:my x=true)(_:xs.all my=true)(_:Q (.bl<|if neg then !d8 x xs else d8 x xs) H)
def jJ:dS X (ó .In) (BR X.K false):=λpins s z H x y v u Q I rx ry h=>by
 obtain⟨p,xs,rfl,a,c,fs,q⟩:=h;cases ry;refine Or.elim (a) (λa=>?_) λa=>?_
 .have⟨aD,r,pl,d⟩:=I.list a;refine SeqAt.in_listAt (jC x) pl.isList (λw b=>wx rx c r fs w (by simpa using b)) ⟨.bl _,H,I,J,?_⟩;rw[show aD.toArray.any (jC x)=aD.any (jC x) by simp,ww r fs];exact q
 .have⟨aD,r,pl,d⟩:=I.tuple a;refine SeqAt.in_tupleAt (jC x) pl (λw b=>wx rx c r fs w (by simpa using b)) ⟨.bl _,H,I,J,?_⟩;rw[show aD.toArray.any (jC x)=aD.any (jC x) by simp,ww r fs];exact q
def IM:dS X (ó .NotIn) (BR X.K true):=λpins s z H x y v u Q I rx ry h=>by
 obtain⟨p,xs,rfl,a,c,fs,q⟩:=h;cases ry;rcases a with a|a
 .have⟨aD,r,pl,d⟩:=I.list a;refine SeqAt.notIn_listAt (jC x) pl.isList (λw b=>wx rx c r fs w (by simpa using b)) ⟨.bl _,H,I,J,?_⟩;rw[show aD.toArray.any (jC x)=aD.any (jC x) by simp,ww r fs];exact q
 .have⟨aD,r,pl,d⟩:=I.tuple a;refine SeqAt.notIn_tupleAt (jC x) pl (λw b=>wx rx c r fs w (by simpa using b)) ⟨.bl _,H,I,J,?_⟩;rw[show aD.toArray.any (jC x)=aD.any (jC x) by simp,ww r fs];exact q
def IN:io X (.builtin "len") (λxs H Q=>c2 λp ys=>xs=[.ref p]/\(ao X.K H p ys\/aV X.K H p ys)/\Q (.int ys.length) H):=λpins s z H xs us Q I r h=>by
 obtain⟨p,ys,rfl,a,q⟩:=h;obtain⟨u,rfl,rx⟩:=q_ r;cases rx;let d:=mw;rcases a with a|a
 .have⟨aD,b,pl,c⟩:=I.list a;have hlen:=b.length;exact Calls.call_len_list pl.isList (by simp only[cx]<;>omega) ⟨.int ys.length,H,I.cN _,⟨s.toks+1,by rw[cx,hlen]⟩,q⟩
 .have⟨aD,b,pl,c⟩:=I.tuple a;have hlen:=b.length;exact len_tuple pl (by simp only[cx]<;>omega) ⟨.int ys.length,H,I.cN _,⟨s.toks+1,by rw[cx,hlen]⟩,q⟩
def pN:io X (.builtin "len") (λxs H Q=>∃F,xs=[.str F]/\F.length<=É/\Q (.int F.length) H):=λpins s z H xs us Q I r h=>by obtain⟨F,rfl,a,q⟩:=h;obtain⟨u,rfl,t,rfl⟩:=q_ r;let b:=mw;exact len_str Z ⟨.int F.length,H,I.cN _,⟨_,J⟩,q⟩
def IP:io X (.type "list") (λxs H Q=>c2 λp ys=>xs=[.ref p]/\(ao X.K H p ys\/aV X.K H p ys)/\∀l,H l=U->Q (.ref l) (ab H l (.ae ys))):=λpins s z H xs us Q I r h=>by
 obtain⟨p,ys,rfl,d,q⟩:=h;obtain⟨u,rfl,rx⟩:=q_ r;cases rx;let fin:∀aD,aX ys aD->ys.length<=É->∀h' a,(∀b o',s.heap.get? b=O o'->h'.get? b=O o')->h'.get? s.heap.objs.size=O {cls:=.type "list",dict:=U,data:=.seq aD.toArray a,slots:=#[]}->EP X pins z Q (.ref s.heap.objs.size) {s with heap:=h'}:=λaD c f h' a kp e=>
  ⟨.ref s.heap.objs.size,_,I.fH kp (aN _)<|show dM X.prog X.w _ h' _ (.ae ys)from⟨f,aD,a,c,e⟩,J,q _<|I.aF.fresh<|aN _⟩
 rcases d with d|d
 .have⟨aD,c,pl,f⟩:=I.list d;let hlen:=c.length;have⟨o,g,i,n,hd⟩:=pl.isList;exact call_list_seq p (.inl J) g i hd (λh' a kp e=>fin aD c f h' a kp e) (by simp only[cx]<;>omega)
 .have⟨aD,c,pl,f⟩:=I.tuple d;let hlen:=c.length;have⟨o,g,i,n,hd⟩:=pl;exact call_list_seq p (.inr J) g i hd (λh' a kp e=>fin aD c f h' a kp e) (by simp only[cx]<;>omega)
def IQ:io X (.type "tuple") (λxs H Q=>c2 λp ys=>xs=[.ref p]/\((ao X.K H p ys/\∀l,H l=U->Q (.ref l) (ab H l (.be ys)))\/(aV X.K H p ys/\Q (.ref p) H))):=λpins s z H xs us Q I r h=>by
 obtain⟨p,ys,rfl,h⟩:=h;obtain⟨u,rfl,rx⟩:=q_ r;cases rx;rcases h with⟨a,q⟩|⟨a,q⟩
 .have⟨aD,c,pl,d⟩:=I.list a;have hlen:=c.length;refine call_tuple_list pl.isList (λh' kp=>?_) (by simp only[cx]<;>lia);have f:ay X pins z H {s with heap:=h'}:=I.cy kp;let g:ay X pins z (ab H h'.objs.size<|.be ys) {s with heap:=h'.push {cls:=.type "tuple",data:=.seq aD.toArray}}:=
   f.fH (λb o e=>b_ _ e) (aN _)<|show dM X.prog X.w _ _ _ (.be ys)from⟨d,aD,c,Âe _ _⟩
  exact⟨.ref h'.objs.size,_,g,J,q _<|f.aF.fresh<|aN _⟩
 .have⟨aD,c,pl,d⟩:=I.tuple a;exact call_tuple_same pl ⟨.ref p,H,I,J,q⟩
def Gv(K:Ñ)(T:String)(x:V)(H:Hp):Prop:=match x with
 |.str _=>T="str"
 |.int _=>T="int"
 |.ref p=>(T="list"/\∃xs,ao K H p xs)\/(T="tuple"/\∃o,K.lookup p=O o/\o.cls=.type "tuple"/\o.dict=U)\/(T="dict"/\((∃ag,H p=O (.dK ag))\/∃ag,H p=O (.dT ag)))\/(T="set"/\c2 λS n=>H p=O (.set S n))
 |_=>False
def IR{x:V}{v:Á}(I:ay X pins z H s)(r:bm x v)(ty:Gv X.K T x H):s.TypeIs v T/\∀a,v=.ref a->∃ob,s.heap.get? a=O ob/\ob.dict=none:=by
 cases x with
 |str F=>
  obtain⟨t,rfl⟩:=r;cases(show T="str" from ty);exact⟨jY s F t,λ_ e=>nomatch e⟩
 |int i=>
  obtain⟨t,rfl⟩:=r;cases(show T="int" from ty);exact⟨typeIs_int s i t,λ_ e=>nomatch e⟩
 |ref p=>
  cases r;rcases ty with⟨rfl,xs,b⟩|⟨rfl,o,hk,d,hd⟩|⟨rfl,hk⟩|⟨rfl,S,n,hk⟩
  .have⟨aD,_,pl,_⟩:=I.list b;refine⟨pl.isList.typeIs,λa e=>?_⟩;cases e;obtain⟨o,n,e,c,hd,_⟩:=pl;exact⟨o,e,hd⟩
  .refine⟨⟨o,I.iE p o hk,d⟩,λa e=>?_⟩;cases e;exact⟨o,I.iE _ o hk,hd⟩
  .have F:∃o,s.heap.get? p=O o/\o.ExactDict:=by
    rcases hk with⟨ag,hk⟩|⟨ag,hk⟩
    .obtain⟨_,_,_,_,o,_,_,e,ex,_⟩:=I.aF p _ hk;exact⟨o,e,ex⟩
    .obtain⟨_,_,_,_,o,_,_,e,ex,_⟩:=I.aF p _ hk;exact⟨o,e,ex⟩
   obtain⟨o,e,ex⟩:=F;refine⟨⟨o,e,ex.1⟩,λa e2=>?_⟩;cases e2;exact⟨o,e,ex.2.1⟩
  .obtain⟨o,_,_,_,e,ex,_⟩:=I.aF p _ hk;refine⟨⟨o,e,ex.1⟩,λa e2=>?_⟩;cases e2;exact⟨o,e,ex.2.1⟩
 |_=>exact ņ ty
def Sv(K:Ñ)(T:String)(r:V->List V->Hp->VK->Prop)(to:TE):TE:=λz H Q=>to z H λx H1=>Gv K T x H1/\r x [] H1 Q
def sY(K:Ñ)(T:String)(r:V->List V->Hp->VK->Prop)(to:TE)(t:TA):TE:=λz H Q=>to z H λx H1=>Gv K T x H1/\t z H1 λxs H2=>r x xs H2 Q
variable {t:TA} {id:String} {r:V->List V->Hp->VK->Prop}
def li(c:Âf T)(slot:Ĳ T name id)(d:ϗ (.builtin id)=pure (.type "method_descriptor"))(e:iI X id r)(f:PE X o to)(g:Ċ o name X.ah (Ï o X.ah)=Ï o X.ah:=by rfl) (i:(apos.endLine==cf.line)=true:=by rfl):PE X (.Call (.Attribute o name apos) [] [] cf) (Sv X.K T r to):=λpins s z H Q I h=>by
 refine wpAny_Call_method0_late g i<|aM (f pins s z H _ I h) λv j q0=>?_;obtain⟨x,H1,a,b,ty,k⟩:=q0;obtain⟨h1,h2⟩:=IR a b ty;exact⟨T,id,c,slot,d,h1,h2,vb J<|ae5<|e pins j z H1 x [] v [] Q a b .nil k⟩
def pO(d:Âf T)(slot:Ĳ T name id)(f:ϗ (.builtin id)=pure (.type "method_descriptor"))(g:iI X id r)(i:PE X o to)(j:PA X (e::es) t)(k:Ċ o name X.ah (Ï o X.ah)=Ï o X.ah:=by rfl)(l:((æ cf (Ð (e::es) X.ah)).all (λx=>!x.1)&&(Ė cf (ė [] X.ah)).all (λx=>x.1.isSome)
   &&decide ((e::es).length+([]:List Ę).length+(if([]:List Ę).isEmpty then 0 else 1)<30))=true:=by rfl)(m:(apos.endLine==cf.line)=true:=by rfl) (n:Ð (e::es) X.ah=(false,Ï e X.ah)::Ð es X.ah:=by rfl) (hplain:(æ cf (Ð es X.ah)).any (·.1)=false:=by rfl):PE X (.Call (.Attribute o name apos) (e::es) [] cf) (sY X.K T r to t):=by
 intro pins s z H Q I h;refine wpAny_Call_method_late k l m J<|aM (i pins s z H _ I h) λv p q0=>?_;obtain ⟨x,H1,a,b,ty,q⟩:=q0;obtain⟨h1,h2⟩:=IR a b ty;refine⟨T,id,d,slot,f,h1,h2,?_⟩;let c:=j cf pins p z H1 _ a q;rw[n]at c⊢;refine vb (by show(false||(æ cf<|Ð es X.ah).any (·.1))=false;rw[hplain]<;>rfl)<|Bh ?_;exact aM c (by rintro us u ⟨vs,H2,w,y,F⟩;exact g pins u z H2 x vs v us Q w b y F)
end
def BS(X:Cx)(id:String)(r:V->List V->Hp->VK->Prop):Prop:=∀(pins:List (À×Ó)) s z H x xs v us Q,ay X pins z H s->bm x v->aX xs us->r x xs H Q->Ç (Í X.prog X.w) X.A (call (.builtin id) (v::us)) (EP X pins z Q) X.xe s
def aX.c8:∀{x:V}{us:List Á},aX [x] us->∃u,us=[u]/\bm x u
|_,_,.cons r .nil=>⟨_,J,r⟩
def aX.zero:∀{us:List Á},aX [] us->us=[]
|_,.nil=>rfl
def aX.dropLast(h:aX xs us):aX xs.dropLast us.dropLast:=by
 induction h with
 |nil=>exact .nil
 |cons r t a=>
  cases t with
  |nil=>exact .nil
  |cons q t'=>exact .cons r a
def Sw(l:List α):l.eraseIdx (l.length-1)=l.dropLast:=by
 induction l with
 |nil=>rfl
 |cons a r c=>
  cases r with
  |nil=>rfl
  |cons b r=>
   let e:(a::b::r).length-1=((b::r).length-1)+1:=by let h1:(a::b::r).length=r.length+2:=J;let h2:(b::r).length=r.length+1:=J;lia
   rw[e,List.eraseIdx_cons_succ,c]
   all_goals rfl
section
variable {ys:List V}
def ay.zi{f:Array Á->Array Á}(I:ay X pins z H s)(a:H l=O (.ae xs))(e:s.heap.get? l=O {cls:=.type "list",data:=.seq aD.toArray n}) (b:f aD.toArray=its'.toArray) (c:aX ys its') (hz:ys.length<=É):ay X pins z (ab H l (.ae ys)) {s with heap:=s.heap.update l (ο f),toks:=t'}:=by
 let q:=PySem.IsL.update e f;rw[b]at q;refine I.mo (a▸dO) (.inl J) (λh u d g=>(qy s.heap (ο f)<|cB d).trans g) ⟨_,q⟩ ?_;exact⟨hz,its',_,c,q⟩
def ay.Sx(I:ay X pins z H s)(a:aX ys aD)(hz:ys.length<=É):ay X pins z (ab H s.heap.objs.size (.ae ys)) {s with heap:=s.heap.push {cls:=.type "list",data:=.seq aD.toArray},toks:=t'}:=I.fH (λ_ _ q=>b_ _ q) (aN _) ⟨hz,aD,0,a,c7 _ J⟩
def ay.fresh(I:ay X pins z H s):H s.heap.objs.size=none:=I.aF.fresh<|aN _
def ay.rm(I:ay X pins z H s)(a:H l=O (.ae xs)):xs.length<=É/\c2 λaD n=>aX xs aD/\xs.length=aD.length/\s.heap.get? l=O {cls:=.type "list",data:=.seq aD.toArray n}:=by obtain⟨F,aD,n,r,e⟩:=I.aF l _ a;exact⟨F,aD,n,r,r.length,e⟩
def IS(h:n<=É):Ϙ n=false:=by exact bO Z
end
inductive IT(x:V)(vs:List V)(H:Hp)(Q:VK):Prop|m(l xs y:_)(_:x=.ref l)(_:vs=[y])(_:H l=O (.ae xs))(_:xs.length<É)(_:Q .aQ (ab H l<|.ae (xs++[y])))
def Sy:BS X "list.append" IT:=λpins s z H x vs v us Q I rx b h=>by
 obtain⟨l,xs,y,rfl,rfl,a,d,q⟩:=h;cases rx;obtain⟨u,rfl,c⟩:=b.c8;obtain⟨a0,aD,n,r,f,e⟩:=I.rm a;refine l5 Çb ⟨_,e,J⟩ F.entry_list_append (F.args_list_append_2 _ _) (PySem.list_append l aD.toArray n u (by rw[cx];lia)) ⟨e,?_⟩;refine⟨.aQ,_,I.zi a e Gc (r.append<|.cons c .nil) ?_,J,q⟩;rw[bw,dP];lia
inductive Sz(x:V)(vs:List V)(H:Hp)(Q:VK):Prop|m(l b xs zs:_)(_:x=.ref l)(_:vs=[.ref b])(_:H l=O (.ae xs))(_:H b=O (.ae zs))(_:xs.length+zs.length<=É)(_:Q .aQ (ab H l<|.ae (xs++zs)))
def IU:BS X "list.extend" Sz:=λpins s z H x vs v us Q I rx d h=>by
 obtain⟨l,b,xs,zs,rfl,rfl,c,f,m,q⟩:=h;cases rx;obtain⟨u,rfl,g⟩:=d.c8;cases g;obtain⟨a0,aD,n,r,o,e⟩:=I.rm c;obtain⟨p,a,i,j,t,e2⟩:=I.rm f;have hsz:aD.toArray.size+a.toArray.size<=sizeLine:=by rw[cx,cx];omega
 have k:¬(!aD.toArray.isEmpty&&Ϙ (aD.toArray.size+a.toArray.size))=true:=by rw[IS hsz,vc];exact eg
 refine l5 F.slot_list_extend ⟨_,e,J⟩ Çc (Çd _ _)
  (AutoSeq1.list_extend_list_list_0 l aD.toArray n b a.toArray i k (by rw[cx];omega) Z) ⟨e,e2,?_⟩
 refine⟨.aQ,_,I.zi c e Gc (r.append j) ?_,J,q⟩;rw[bw];omega
inductive SA(x:V)(vs:List V)(H:Hp)(Q:VK):Prop|m(l xs y:_)(_:x=.ref l)(_:vs=[])(_:H l=O (.ae xs))(_:xs[xs.length-1]?=O y)(_:Q y (ab H l<|.ae xs.dropLast))
def lm:BS X "list.pop" SA:=λpins s z H x vs v us Q I rx d h=>by
 obtain⟨l,xs,y,rfl,rfl,c,f,q⟩:=h;cases rx;have a:=d.zero;subst a;have⟨a0,aD,n,r,g,e⟩:=I.rm c;obtain⟨u,i,j⟩:=r.get f;have b:aD.toArray[aD.toArray.size-1]?=O u:=by show aD.toArray[aD.length-1]?=O u;exact Ôf▸g▸i
 refine l5 F.slot_list_pop ⟨_,e,J⟩ F.entry_list_pop (F.args_list_pop_1 _) (MeetsSeq.list_pop_last l aD.toArray n u b (by rw[cx];omega)) ⟨e,?_⟩;refine⟨y,_,I.zi c e ?_ r.dropLast ?_,j,q⟩
 .show aD.toArray.eraseIdxIfInBounds (aD.toArray.size-1)=aD.dropLast.toArray;rw[cx,List.eraseIdxIfInBounds_toArray,Sw]
 .rw[FZ];omega
inductive IV(x y:V)(H:Hp)(Q:VK):Prop|m(l b xs zs:_)(_:x=.ref l)(_:y=.ref b)(_:H l=O (.ae xs))(_:H b=O (.ae zs))(_:xs.length+zs.length<=É)(_:∀p,H p=U->Q (.ref p) (ab H p<|.ae (xs++zs)))
def iq:dS X (ž .Add) IV:=λpins s z H x y v u Q I rx ry h=>by
 obtain⟨l,b,xs,zs,rfl,rfl,c,d,i,q⟩:=h;cases rx;cases ry;have⟨F,aD,n,r,j,e⟩:=I.rm c;have⟨k,a,m,f,o,e2⟩:=I.rm d;refine PySem.P.add_list e e2 ?_ (by rw[cx,cx];omega);let g:aD.toArray++a.toArray=(aD++a).toArray:=Gc;rw[g];exact⟨.ref _,_,I.Sx (r.append f) (by rw[bw];omega),J,q _ I.fresh⟩
theorem aX.ints:∀{ns:List Int}{us:List Á},aX (ns.map V.int) us->IntsAre us ns
|[],us,h=>by
 rw[mP]at h;cases h;exact IntsAre.nil
|n::ns,us,h=>by
 rw[bz]at h;cases h with
 |cons r t=>obtain⟨k,rfl⟩:=r;exact IntsAre.cons n k<|aX.ints t
theorem IW:∀{us:List Á}{ns:List Int},IntsAre us ns->aX (ns.map V.int) us
|_,_,.nil=>by rw[mP];exact Paired.nil
|_,_,.cons n t h=>by rw[bz];exact Paired.cons (show bm (V.int n) (Ÿ n t)from⟨t,J⟩)<|IW h
theorem aX.strs:∀{xs:List Ã}{us:List Á},aX (xs.map V.str) us->StrsAre us xs
|[],us,h=>by
 rw[mP]at h;cases h;exact StrsAre.nil
|x::xs,us,h=>by
 rw[bz]at h;cases h with
 |cons r t=>obtain⟨k,rfl⟩:=r;exact StrsAre.cons x k<|aX.strs t
theorem IX:∀{us:List Á}{xs:List Ã},StrsAre us xs->aX (xs.map V.str) us
|_,_,.nil=>by rw[mP];exact Paired.nil
|_,_,.cons x t h=>by rw[bz];exact Paired.cons (show bm (V.str x) (ś x t)from⟨t,J⟩)<|IX h
theorem aX.Gw:∀{bs:List Bool}{us:List Á},aX (bs.map V.bl) us->us=bs.map Ŝ
|[],us,h=>by
 rw[mP]at h;cases h;rfl
|b::bs,us,h=>by
 rw[bz]at h;cases h with
 |cons r t=>cases r;rw[aX.Gw t,bz]
def aX.wz(r:aX [V.ref a] us):us=[ç a]:=by
 cases r with
 |cons r t=>
  cases t;cases r;rfl
def SB(d:A.handled=U)(a:s.heap.IsList l aD.toArray)(hi:IntsAre aD ns)(h:∀h' tk t',(∀b o,s.heap.get? b=O o->h'.get? b=O o)->Q (.int ns.sum t') {s with heap:=h',toks:=tk}):Ç (Í prog w) A (call (.builtin "sum") [.ref l]) Q E s:=by
 obtain⟨xs,e⟩:=hi.allInts.items;let c:numsOf (Δ xs).toList=ns:=e▸hi.numsOf;rw[nums_intItems]at c;rw[e]at a;refine PySem.sum_intListG d a λh' tk t' hk=>?_;let:=h h' tk t' hk;rw[preSum_eq,jZ Gc,c];exact this
inductive SD(K:Ñ)(vs:List V)(H:Hp)(Q:VK):Prop|m(a:À)(ns:List Int)(_:vs=[V.ref a])(_:ao K H a (ns.map V.int))(_:Q (.int ns.sum) H)
def SE(b:X.gf=true):io X (.builtin "sum") (SD X.K):=λpins s z H vs us Q I r h=>by obtain⟨a,ns,rfl,c,q⟩:=h;obtain⟨aD,d,e,_⟩:=I.list c;exact(aX.wz r)▸SB (I.ok.hd b) e.isList d.ints λh' tk t' hk=>⟨.int _,H,I.cy hk,⟨_,J⟩,q⟩
def IY(b:s.heap.IsList l items)(h:∀a,a={s with heap:=s.heap.push {cls:=.type "list_iterator",data:=.fields #[.ref l,.int 0 0]}}->(a.heap.IsListIter s.heap.objs.size l 0/\a.heap.IsList l items)->l≠s.heap.objs.size->Q (.ref s.heap.objs.size) a):Ç (Í prog w) A (š (.ref l)) Q E s:=by
 let c:l<s.heap.objs.size:=by obtain⟨_,e,_⟩:=b;exact cG e
 exact Ôb b<|h _ J ⟨⟨_,c7 _ J,J,J⟩,b.push _⟩<|gm c
def IZ{bs:List Bool}(e:aD=bs.map Ŝ):TruthOf prog w A (λi v=>aD.toArray[i]?=O v) (λi=>bs.getD i false):=λi v s Q E d f=>by
 let a:aD[i]?=O v:=by simpa using d
 rw[e,aR]at a;obtain⟨b,g,rfl⟩:=ae6.mp a;let h:bs.getD i false=b:=by rw[jy,g]<;>rfl
 let c:Q (bs.getD i false) s:=f;rw[h]at c;exact lX c
theorem I0:∀bs:List Bool,(ø bs.length).any (λi=>bs.getD i false)=bs.any id
|[]=>rfl
|b::bs=>by
 rw[aJ,ae7,kP,Bi,kP,<-I0 bs]
 all_goals rfl
theorem I_:∀bs:List Bool,(ø bs.length).all (λi=>bs.getD i false)=bs.all id
|[]=>rfl
|b::bs=>by
 rw[aJ,ae7,d7,oJ,d7,<-I_ bs]
 all_goals rfl
inductive SF(K:Ñ)(vs:List V)(H:Hp)(Q:VK):Prop|m(a:À)(bs:List Bool)(_:vs=[V.ref a])(_:ao K H a (bs.map V.bl))(_:Q (.bl<|bs.any id) H)
inductive Ja(K:Ñ)(vs:List V)(H:Hp)(Q:VK):Prop|m(a:À)(bs:List Bool)(_:vs=[V.ref a])(_:ao K H a (bs.map V.bl))(_:Q (.bl<|bs.all id) H)
def wA(f:X.gf=true):io X (.builtin "any") (SF X.K):=λpins s z H vs us Q I r h=>by
 obtain⟨a,bs,rfl,g,q⟩:=h;obtain⟨aD,i,j,_⟩:=I.list g;rw[aX.wz r];let d:=i.Gw;refine call_any_walk<|IY j.isList λl e2 st cu=>?_;subst e2;refine⟨_,_,_,_,_,_,_,J,Âg (A:=X.A.in1) (I.ok.hd f) _ a cu aD.toArray,st,IZ d,λh' tk hk=>?_⟩;refine⟨.bl _,H,I.cy λb o e=>hk b o (λc=>?_)<|b_ _ e,?_,q⟩
 .rcases a_.mp c with k|c
  .exact absurd (k▸cG e)<|lW _
  .cases c
 .show Ŝ _=Ŝ _;rw[<-I0,d,cx,aK]
def zj(f:X.gf=true):io X (.builtin "all") (Ja X.K):=λpins s z H vs us Q I r h=>by
 obtain⟨a,bs,rfl,g,q⟩:=h;obtain⟨aD,i,j,_⟩:=I.list g;rw[aX.wz r];let d:=i.Gw;refine call_all_walk<|IY j.isList λl e2 st cu=>?_;subst e2;refine⟨_,_,_,_,_,_,_,J,Âg (A:=X.A.in1) (I.ok.hd f) _ a cu aD.toArray,st,IZ d,λh' tk hk=>?_⟩;refine⟨.bl _,H,I.cy λb o e=>hk b o (λc=>?_)<|b_ _ e,?_,q⟩
 .rcases a_.mp c with k|c
  .exact absurd (k▸cG e)<|lW _
  .cases c
 .show Ŝ _=Ŝ _;rw[<-I_,d,cx,aK]
mutual
inductive Dp (K:Ñ) (H:Hp):V->ŧ->Prop
 |aQ:Dp K H .aQ .none
 |bl (b:Bool):Dp K H (.bl b) (.bool b)
 |int (i:Int):Dp K H (.int i) (.int i)
 |str (x:Ã):Dp K H (.str x) (.str x)
 |ae {a:À} {xs:List V} {ds:List ŧ}:ao K H a xs->pP K H xs ds->Dp K H (.ref a) (.list ds)
 |be {a:À} {xs:List V} {ds:List ŧ}:aV K H a xs->pP K H xs ds->Dp K H (.ref a) (.tuple ds)
inductive pP (K:Ñ) (H:Hp):List V->List ŧ->Prop
 |nil:pP K H [] []
 |cons {v:V} {vs:List V} {d:ŧ} {ds:List ŧ}:Dp K H v d->pP K H vs ds->pP K H (v::vs) (d::ds)
end
mutual
theorem Dp.ol (I:ay X pins z H s):∀(d:ŧ)(v:V)(u:Á),Dp X.K H v d->bm v u->∃as,Reads s.heap u d as
|.none,_,_,h,r=>by
 cases h;cases r;exact⟨_,Reads.none⟩
|.bool b,_,_,h,r=>by
 cases h;cases r;exact⟨_,Reads.bool b⟩
|.int i,_,_,h,r=>by
 cases h;obtain⟨t,rfl⟩:=r;exact⟨_,Reads.int i t⟩
|.str x,_,_,h,r=>by
 cases h;obtain⟨t,rfl⟩:=r;exact⟨_,Reads.str x t⟩
|.list ds,_,_,h,r=>by
 cases h with
 |ae hs ha=>
  cases r;obtain⟨aD,rv,⟨o,n,ho,hc,_,hd⟩,_⟩:=I.list hs;obtain⟨as,hr⟩:=Dp.rp I ds _ aD ha rv;exact⟨_,Reads.list ho hc hd hr⟩
|.tuple ds,_,_,h,r=>by
 cases h with
 |be hs ha=>
  cases r;obtain⟨aD,rv,⟨o,ho,hc,n,hd⟩,_⟩:=I.tuple hs;obtain⟨as,hr⟩:=Dp.rp I ds _ aD ha rv;exact⟨_,Reads.tuple ho hc hd hr⟩
|.dict _,_,_,h,_=>by cases h
theorem Dp.rp (I:ay X pins z H s):∀(ds:List ŧ)(vs:List V)(us:List Á),pP X.K H vs ds->aX vs us->∃as,ReadsAll s.heap us ds as
|[],_,_,h,r=>by
 cases h;cases r;exact⟨_,ReadsAll.nil⟩
|d::ds,_,_,h,r=>by
 cases h with
 |cons h1 h2=>
  cases r with
  |cons r1 r2=>
   obtain⟨as,q1⟩:=Dp.ol I d _ _ h1 r1;obtain⟨bs,q2⟩:=Dp.rp I ds _ _ h2 r2;exact⟨_,ReadsAll.cons q1 q2⟩
end
inductive Jb(K:Ñ)(x y:V)(H:Hp)(Q:VK):Prop|m(d e:_)(_:Dp K H x d)(_:Dp K H y e)(_:SeqAt.shaped d=true)(_:SeqAt.shaped e=true)(_:Q (.bl<|ϙ d e) H)
def zl(a:X.A.units+64<Ĥ):dS X (ó .Eq) (Jb X.K):=λpins s z H x y v u Q I rx ry h=>by obtain⟨d,e,hd,b,c,f,q⟩:=h;obtain⟨as,g⟩:=Dp.ol I d x v hd rx;obtain⟨bs,i⟩:=Dp.ol I e y u b ry;exact SeqAt.compareEq_shaped g i c f a ⟨.bl _,H,I,J,q⟩
abbrev Jc(h:á)(c:À)(v:Option Á):Prop:=h.IsCell c v
def SG(scope sc:Ō):Scope:={scope with names:=scope.names.map λ(n,k)=>if(k==.free&&sc.kind==.function&&sc.names.lookup n==O .cell)then(n,.cell)else(n,k)}
noncomputable def fZ(cells:List (Ã×À)):List (Ã×đ)->List (Ã×À)->List (Ã×À)
|[],acc=>acc
|(n,k)::r,acc=>if k==.free then fZ cells r ((n,(cells.lookup n).getD 0)::acc)else fZ cells r acc
theorem Jd(ah:Ă)(f:Ã×đ->List (Ã×À)->Sem (ForInStep (List (Ã×À))))(b:∀n k c,f (n,k) c=if k==.free then(do let a <-cellOf ah n;pure (.yield ((n,a)::c)))else pure (.yield c)):∀(names:List (Ã×đ))(acc:List (Ã×À)),(∀y∈names,y.2=.free->∃c,ah.cells.lookup y.1=O c)->forIn names acc f=pure (fZ ah.cells names acc)
|[]=>λacc _=>by rw[Bj];rfl
|(n,k)::r=>λacc h=>by
 rw[Bk,b];let d:=λacc=>Jd ah f b r acc λy i=>h y<|f8 _ i;unfold fZ;by_cases hk:(k==π)=true
 .rw[aj hk,aj hk];obtain⟨c,g⟩:=h (n,k) kN (by simpa using hk);let e:cellOf ah n=pure c:=by unfold cellOf;rw[g]
  rw[e];let e2:(ah.cells.lookup n).getD 0=c:=by rw[g];rfl
  rw[e2];exact d _
 .rw[ai hk,ai hk];exact d _
def SH(h:∀y∈scope.names,y.2=.free->∃c,ah.cells.lookup y.1=O c):closureFor scope ah=pure (fZ ah.cells scope.names []):=by simp only[closureFor];rw[Jd ah _ (λn k c=>J) scope.names [] h];rfl
theorem C9{α:Type}:∀{l:List (Ã×α)}{n:Ã}{c:α},(n,c)∈l->∃a,l.lookup n=O a
|(k,v)::r,n,c,h=>by
 rw[vd];cases b:n==k with
 |true=>exact⟨_,J⟩
 |false=>
  rcases a_.mp h with e|h
  .cases e;simp at b
  .exact C9 h
theorem zm{cells:List (Ã×À)}:∀{names:List (Ã×đ)}{acc:List (Ã×À)}{n:Ã}{c:À},(n,c)∈fZ cells names acc->(n,c)∈acc\/((n,.free)∈names/\c=(cells.lookup n).getD 0)
|[],_,_,_,h=>.inl h
|(m,k)::r,acc,n,c,h=>by
 unfold fZ at h;split at h
 .rename_i hk;let hk:k=.free:=by simpa using hk
  rcases zm h with h|⟨h1,h2⟩
  .rcases a_.mp h with e|h
   .cases e;exact .inr ⟨hk▸kN,J⟩
   .exact .inl h
  .exact .inr ⟨f8 _ h1,h2⟩
 .rcases zm h with h|⟨h1,h2⟩
  .exact .inl h
  .exact .inr ⟨f8 _ h1,h2⟩
theorem C_{cells:List (Ã×À)}:∀{names:List (Ã×đ)}{acc:List (Ã×À)}{p:Ã×À},p∈acc->p∈fZ cells names acc
|[],_,_,h=>h
|(m,k)::r,acc,p,h=>by
 unfold fZ;split
 .exact C_<|f8 _ h
 .exact C_ h
theorem Da{cells:List (Ã×À)}:∀{names:List (Ã×đ)}{acc:List (Ã×À)}{n:Ã},(n,.free)∈names->(n,(cells.lookup n).getD 0)∈fZ cells names acc
|(m,k)::r,acc,n,h=>by
 unfold fZ;refine Or.elim (a_.mp h) (λe=>?_) λh=>?_
 .cases e;exact C_ kN
 .split
  .exact Da h
  .exact Da h
theorem wB:∀{names:List (Ã×đ)}{h:á}{acc:List (Ã×À)}{x:Ã}{c:À},(x,c)∈ý h.objs.size names acc->(x,c)∈acc\/((x,.cell)∈names/\h.objs.size<=c/\Jc (Ũ h names) c U)
|[],_,_,_,_,h=>.inl h
|(n,k)::r,h,acc,x,c,hm=>by
 unfold ý at hm;unfold Ũ;split at hm
 .rename_i hk;rw[aj hk];have hk:k=.cell:=by simpa using hk
  rw[<-i_ h {cls:=.type "cell",data:=.cell U}]at hm;rcases wB hm with hm|⟨h1,h2,a⟩
  .rcases a_.mp hm with e|hm
   .cases e;exact .inr ⟨hk▸kN,aN _,_,F0 r _ _ _<|c7 _ J,J⟩
   .exact .inl hm
  .rw[i_]at h2;exact .inr ⟨f8 _ h1,F1 h2,a⟩
 .rename_i hk;rw[ai hk];rcases wB hm with hm|⟨h1,h2,a⟩
  .exact .inl hm
  .exact .inr ⟨f8 _ h1,h2,a⟩
theorem zo:∀{names:List (Ã×đ)}{n:Nat}{acc:List (Ã×À)}{p:Ã×À},p∈acc->p∈ý n names acc
|[],_,_,_,h=>h
|(m,k)::r,n,acc,p,h=>by
 unfold ý;split
 .exact zo<|f8 _ h
 .exact zo h
theorem Db:∀{names:List (Ã×đ)}{n:Nat}{acc:List (Ã×À)}{x:Ã},(x,.cell)∈names->∃c,(x,c)∈ý n names acc
|(m,k)::r,n,acc,x,h=>by
 unfold ý;refine Or.elim (a_.mp h) (λe=>?_) λh=>?_
 .cases e;exact⟨n,zo kN⟩
 .split
  .exact Db h
  .exact Db h
theorem Dc:∀{names:List (Ã×đ)}{h:á}{acc:List (Ã×À)}{x y:Ã}{c:À},(∀p∈acc,p.2<h.objs.size)->(∀x y c,(x,c)∈acc->(y,c)∈acc->x=y)->(x,c)∈ý h.objs.size names acc->(y,c)∈ý h.objs.size names acc->x=y
|[],_,_,_,_,_,_,hi,h1,h2=>hi _ _ _ h1 h2
|(n,k)::r,h,acc,x,y,c,d,hi,h1,h2=>by
 unfold ý at h1 h2;split at h1
 .rename_i hk;rw[aj hk]at h2;rw[<-i_ h {cls:=.type "cell",data:=.cell U}]at h1 h2;refine Dc (h:=h.push _) (λp f=>?_) (λx y c a b=>?_) h1 h2
  .rw[i_];rcases a_.mp f with rfl|f
   .exact FS _
   .exact F2<|d p f
  .rcases a_.mp a with e|a<;>rcases a_.mp b with g|b
   .cases e;cases g;rfl
   .cases e;exact absurd (d _ b)<|lW _
   .cases g;exact absurd (d _ a)<|lW _
   .exact hi _ _ _ a b
 .rename_i hk;rw[ai hk]at h2;exact Dc d hi h1 h2
def SI{code:Á}{around:Ă}{builtins:À}{Q:Ă->Ì->Prop}(h:Q (newEnv scope s.heap.objs.size globals (ý (s.heap.objs.size+1) scope.names closure) qual func code (O around) builtins)
   {s with heap:=Ũ (s.heap.push {cls:=.type "dict",data:=.dict #[]}) scope.names}):Ç M A (newFunctionEnv scope globals closure [] qual func code (O around) builtins) Q E s:=by
 simp only[newFunctionEnv,Option.isSome_some,fi];refine aA<|wpAny_alloc ?_;refine aA<|wpAny_layCells _ (λn k c=>J) scope.names closure _ _ ?_;rw[show({s with heap:=s.heap.push {cls:=.type "dict",data:=.dict #[]}}:Ì).heap.objs.size=s.heap.objs.size+1 from i_ ..,Bj];exact aA<|bc<|bc h
theorem Dd{sc:Ō}:∀{names:List (Ã×đ)}{x:Ã}{k:đ},(names.map λ(n,k)=>if(k==π&&sc.kind==.function&&sc.names.lookup n==O .cell)then(n,Âh)else(n,k)).lookup x=O k->∃d,names.lookup x=O d/\(k=d\/(d=.free/\k=.cell))
|[],_,_,h=>by simp at h
|(n,c)::r,x,k,h=>by
 have e:=@Dd sc r x k;let h':Ť x ((if(c==π&&sc.kind==.function&&sc.names.lookup n==O .cell)=true then(n,Âh)else(n,c))::(r.map _))=O k:=h;cases b:x==n with
 |true=>
  simp only[vd,b];by_cases a:(c==π&&sc.kind==.function&&sc.names.lookup n==O .cell)=true
  .rw[aj a]at h';simp only[vd,b]at h';cases h';simp only[aS,jV]at a;exact⟨c,J,.inr ⟨a.1.1,J⟩⟩
  .rw[ai a]at h';simp only[vd,b]at h';cases h';exact⟨_,J,.inl J⟩
 |false=>
  simp only[vd,b];by_cases a:(c==π&&sc.kind==.function&&sc.names.lookup n==O .cell)=true
  .rw[aj a]at h';simp only[vd,b]at h';exact e h'
  .rw[ai a]at h';simp only[vd,b]at h';exact e h'
structure wC(N:List Ã)(sc scope:Ō)(own:List (Ã×Nat)):Prop where
 kind:scope.kind=.function
 De:∀y∈scope.names,scope.names.lookup y.1=O y.2
 ix:∀p∈own,N[p.2]?=O p.1
 free:∀y∈scope.names,y.2=.free->sc.names.lookup y.1=O .cell\/sc.names.lookup y.1=O .free
 own:∀y∈scope.names,y.2=.local\/y.2=.cell->y.1∈own.map (·.1)\/y.1∉N
noncomputable def bo(z:St):List Nat->St
|[]=>z
|v::vs=>(bo z vs).set v U
theorem Df(z:St):∀vs:List Nat,(bo z vs).length=z.length
|[]=>rfl
|v::vs=>by unfold bo;rw[FY,Df z vs]
theorem Dg{z:St}{i:Nat}{x:V}:∀{vs:List Nat},(bo z vs)[i]?=O (O x)->z[i]?=O (O x)/\i∉vs
|[]=>λh=>⟨h,Gc⟩
|v::vs=>λh=>by
 unfold bo at h;by_cases hi:v=i
 .subst hi;by_cases a:v<(bo z vs).length
  .rw[Ój a]at h;cases h
  .rw[j0 (by simpa using a)]at h;cases h
 .rw[Ôa hi]at h;obtain⟨h1,h2⟩:=Dg h;exact⟨h1,by simp only[a_,Bm];exact⟨λe=>hi e.symm,h2⟩⟩
abbrev Cx.gc(X:Cx)(s:Ì)(H:Hp)(scope:Ō)(dG:Ă)(fp:List À):Cx:={X with gW:=s,sP:=H,ah:=dG,b0:=X.stack,ex:=fp,fn:=λx=>scope.names.lookup x==O .cell,pn:=[],xe:=λ_ _=>False}
def SJ(I:ay X pins z H s)(ok:wC X.N X.ah.scope scope own)(R:X.N.Nodup)(A:∀b∈fp,kf X pins H b/\b<s.heap.objs.size):ay (X.gc s H scope (č scope (ý (s.heap.objs.size+1) scope.names (fZ X.ah.cells scope.names [])) s.heap.objs.size X.ah) fp) [] (bo z (own.map (·.2))) H {s with heap:=Ũ (s.heap.push {cls:=.type "dict",data:=.dict #[]}) scope.names}:=by
 have S:∀y∈scope.names,y.2=.free->∃c,X.ah.cells.lookup y.1=O c:=λy l e=>by
  rcases ok.free y l e with k|k
  .exact I.ok.has _<|.inl k
  .exact I.ok.has _<|.inr k
 generalize C:č scope (ý (s.heap.objs.size+1) scope.names<|fZ X.ah.cells scope.names []) s.heap.objs.size X.ah=d;have kp:∀b o,s.heap.get? b=O o->(Ũ (s.heap.push {cls:=.type "dict",data:=.dict #[]}) scope.names).get? b=O o:=λb o e=>F0 _ _ _ _<|b_ _ e;have E:d.locals=s.heap.objs.size:=by rw[<-C];rfl
 have x:d.cells=ý (s.heap.objs.size+1) scope.names (fZ X.ah.cells scope.names []):=by rw[<-C];rfl
 have K:d.scope=SG scope X.ah.scope:=by rw[<-C];rfl
 rw[<-i_ s.heap {cls:=.type "dict",data:=.dict #[]}]at x;have D:∀{y c},(y,c)∈fZ X.ah.cells scope.names []->X.ah.cells.lookup y=O c/\c<s.heap.objs.size:=λ{y c} f=>by
  rcases zm f with f|⟨h1,rfl⟩
  .cases f
  .obtain⟨c,a0⟩:=S _ h1 J;rw[a0];obtain⟨w,a3⟩:=I.cell _ _ a0;exact⟨J,a3.lt⟩
 have mem:∀{y c},d.cells.lookup y=O c->(X.ah.cells.lookup y=O c/\c<s.heap.objs.size)\/(s.heap.objs.size+1<=c/\Jc (Ũ (s.heap.push {cls:=.type "dict",data:=.dict #[]}) scope.names) c U):=λ{y c} e=>by
  rw[x]at e;rcases wB (jx e)with f|⟨_,h2,T⟩
  .exact .inl<|D f
  .rw[i_]at h2;exact .inr ⟨h2,T⟩
 have ue:∀{y},scope.names.lookup y=O .free->∃c,d.cells.lookup y=O c/\X.ah.cells.lookup y=O c:=λ{y} F=>by
  have l:(y,π)∈scope.names:=jx F;obtain⟨G,g⟩:=C9<|zo<|Da l;rw[<-x]at g;refine⟨G,g,?_⟩;rw[x]at g;rcases wB (jx g)with f|⟨h1,_,_⟩
  .exact(D f).1
  .let:=ok.De _ h1;rw[F]at this;cases this
 have L:(X.gc s H scope d fp).Ok:=by
  refine⟨I.ok.mod,by rw[K];exact ok.kind,by rw[<-C];exact I.ok.n6,by rw[<-C];exact I.ok.vq,by rw[E];exact aN _,λy a3 c t e2=>?_,λy l=>?_,λy c a3 e=>?_,I.ok.hd,I.ok.frames,.inl J,λb u=>⟨?_,λy c e a3=>?_⟩,I.bs,d5 I.ok.pp I.sz,λb o e u=>?_,λb u a3=>?_,I.stack,I.HI⟩
  .let t:d.cells.lookup y=O c:=t;have e2:d.cells.lookup a3=O c:=e2;rw[x]at t e2;refine Dc (λp B=>?_) (λy a3 c a b=>I.ok.inj y a3 c (D a).1 (D b).1) (jx t)<|jx e2;rw[i_];exact F2 (D B).2
  .show ∃c,d.cells.lookup y=O c;have h:∀k,d.kindOf y=O k->(k=.cell\/k=.free)->∃c,d.cells.lookup y=O c:=λk hk M=>by
    unfold Env.kindOf at hk;rw[K]at hk;obtain⟨v,e,r⟩:=Dd hk;have:v=.cell\/v=.free:=by
     rcases r with rfl|⟨rfl,_⟩
     .exact M
     .exact .inr J
    rcases this with rfl|rfl
    .obtain⟨c,f⟩:=Db<|jx e;obtain⟨G,g⟩:=C9 f;exact⟨G,x▸g⟩
    .obtain⟨c,h1,_⟩:=ue e;exact⟨c,h1⟩
   rcases l with l|l
   .exact h _ l<|.inl J
   .exact h _ l<|.inr J
  .let a3:(scope.names.lookup y==O Âh)=true:=a3;have a3:scope.names.lookup y=O .cell:=by simpa using a3
   have e:d.cells.lookup y=O c:=e;rw[x]at e;rcases wB (jx e)with f|⟨_,h2,_⟩
   .rcases zm f with f|⟨h1,_⟩
    .cases f
    .let q:=ok.De _ h1;rw[a3]at q;cases q
   .rw[i_]at h2;exact F1 h2
  .show b≠d.locals;exact E▸gm (A b u).2
  .let e:d.cells.lookup y=O c:=e;rcases mem e with⟨h1,_⟩|⟨h1,_⟩
   .exact(A b u).1.2.2.2.2.1 y c h1 a3
   .let h2:s.heap.objs.size+1<=b:=a3▸h1;exact absurd (ia (A b u).2<|F1 h2)<|lW _
  .rcases(A b u).1.2.2.2.1 with a3|a3
   .exact I.ok.wb b o e a3
   .exact absurd (ia (cG e)<|d5 I.ok.pp a3)<|lW _
  .rcases a_.mp (I.CI b a3)with a3|a3
   .exact(A b u).1.2.1 a3
   .exact(A b u).1.2.2.1 a3
 refine⟨L,J,I.fI,Un.cy kp,⟨λ_=>U,?_,λi y a1 t e2 j=>?_⟩,λy c e=>?_,?_,λy c e=>?_,λp B=>?_,I.aF.cy kp,by rw[Df];exact I.len⟩
 .show Heap.Ns _ d.locals _;rw[E];exact Heap.Ns.keeps (Heap.Ns.new ..) λb o e=>F0 _ _ _ _ e
 .obtain⟨e2,cu⟩:=Dg e2;have a2:scope.names.lookup y=O .free/\(d.kindOf y=O .cell\/d.kindOf y=O .free):=by
   have h:∀k,d.scope.names.lookup y=O k->k=.local\/k=.cell\/k=.free->scope.names.lookup y=O .free/\(d.kindOf y=O .cell\/d.kindOf y=O .free):=λk hk M=>by
    have P:=hk;rw[K]at hk;obtain⟨v,e,r⟩:=Dd hk;have Q:¬(v=.local\/v=.cell):=λV=>by
     rcases ok.own _ (jx e) V with g|g
     .obtain⟨p,B,N⟩:=bZ.mp g;have j:=ok.ix p B;let:p.1=y:=N;rw[this]at j;exact cu<|bZ.mpr ⟨p,B,CJ R j t⟩
     .exact g<|bM t
    rcases r with rfl|⟨rfl,rfl⟩
    .rcases M with rfl|rfl|rfl
     .exact absurd (.inl J) Q
     .exact absurd (.inr J) Q
     .exact⟨e,.inr P⟩
    .exact⟨e,.inl P⟩
   have j:vt d.scope y:=j;rcases j with j|j|j
   .exact h _ j<|.inl J
   .exact h _ j<|.inr<|.inl J
   .exact h _ j<|.inr<|.inr J
  obtain⟨m,Y,F⟩:=I.iD;have W:vt X.ah.scope y:=(ok.free _ (jx a2.1) J).elim (λk=>.inr<|.inl k) λk=>.inr<|.inr k;obtain⟨w,r,q⟩:=F i y a1 t e2 W;refine⟨w,r,.inr ⟨a2.2,?_⟩⟩;obtain⟨c,h1,h2⟩:=ue a2.1;rcases q with⟨k,_⟩|⟨_,G,g,a3⟩
  .let k:X.ah.scope.names.lookup y=O .local:=k;rcases ok.free _ (jx a2.1) J with v|v<;>rw[show X.ah.scope.names.lookup y=_ from v]at k<;>cases k
  .rw[h2]at g;cases g;exact⟨c,h1,a3.keeps kp⟩
 .let e:d.cells.lookup y=O c:=e;rcases mem e with⟨h1,_⟩|⟨_,a3⟩
  .obtain⟨w,a3⟩:=I.cell y c h1;exact⟨w,a3.keeps kp⟩
  .exact⟨_,a3⟩
 .show H d.locals=U;rw[E];exact I.aF.fresh<|aN _
 .let e:d.cells.lookup y=O c:=e;rcases mem e with⟨h1,_⟩|⟨h1,_⟩
  .exact I.jH y c h1
  .exact I.aF.fresh<|F1 h1
 .exact absurd (show p∈([]:List (À×Ó))++[]from B) Gc
def SL{v:Á}(I:ay X pins z H s)(a:H D=O (.ae xs))(hz:xs.length<É)(r:bm y v)(h:∀s',ay X pins z (ab H D (.ae (xs++[y]))) s'->Q .none s'):Ç (Í X.prog X.w) X.A (call (.builtin "list.append") [.ref D,v]) Q E s:=by
 obtain⟨f,aD,n,c,e⟩:=I.aF D _ a;let j:=c.length;refine append_at e λh' g d=>h {s with heap:=h'} (I.mo (by rw[a];trivial) (.inl J) (λb u i q=>(g.2 b i).trans q) ⟨_,d⟩ ⟨List.length_append▸hz,aD++[v],n+1,c.append<|.cons r .nil,?_⟩);rw[d];simp
def xX(X:Cx)(ifs:List â)(t:TT):Prop:=∀pins s z H Q,ay X pins z H s->t z H Q->Ç (Í X.prog X.w) X.A (forIn ifs true λc r=>if r=true then do let ok <-ε c X.ah<|Ï c X.ah;pure (Ϭ ok)else pure<|Ϭ r) (TP X pins z Q) X.xe s
def gA:TT:=λ_ H Q=>Q true H
def Je:xX X [] gA:=λ_ _ _ H _ I h=>wpAny_tests_nil ⟨H,I,h⟩
def zq(h:PT X c t):xX X [c] t:=λpins s z H Q I hw=>wpAny_tests_one<|h pins s z H Q I hw
def uh{Q b:α->Ì->Prop}(h:Ç M A t Q (λ_ _=>False) s)(c:∀a s,Q a s->b a s):Ç M A t b E s:=iZ h c λ_ _ z=>ņ z
def SM{it acc:Á}(I:Nat->Ì->Prop)(turn:∀n s,I n s->Ç (Í prog w) A (ĉ it) (λr a=>match r with
   |none=>R (.ok .next) a
   |some v=>Ç (Í prog w) A (Ϥ target it v) (λ_ f=>Ç (Í prog w) A (ż target ah v) (λ_ g=>
     Ç (Í prog w) A (forIn ifs true λc r=>if r=true then do let ok <-ε c ah (Ï c ah);pure (Ϭ ok)else pure (Ϭ r)) (λok b=>
      if ok=true then Ç (Í prog w) A (Ï elt ah) (λx i=>
       Ç (Í prog w) A (call (.builtin "list.append") [acc,x]) (λ_ j=>∃m,m<n/\I m j) (ρ (Í prog w) A ah λe s'=>R (.error e) s') i) (ρ (Í prog w) A ah λe s'=>R (.error e) s') b
      else ∃m,m<n/\I m b) (ρ (Í prog w) A ah λe s'=>R (.error e) s') g) (ρ (Í prog w) A ah λe s'=>R (.error e) s') f) (ρ (Í prog w) A ah λe s'=>R (.error e) s') a) (ρ (Í prog w) A ah λe s'=>R (.error e) s') s)(n:Nat) (h:I n s):ŏ (Í prog w) A (.compLoop (.ListComp elt [⟨target,iter,ifs,0⟩] scope pos) 0 it acc ah) R s:=by
 refine codeAny_loop J I (λn s o=>?_) n h;show Ç _ A ((compTurn (.ListComp elt [⟨target,iter,ifs,0⟩] scope pos) 0 it acc ah).onRaise λx=>do noteFrame x ah;theTreesLotGoes x) _ _ s;refine wpAny_noted ?_;rw[compTurn_list];refine aA<|FQ<|aA<|iZ (turn n s o) (λr a k=>?_) λ_ _ h'=>h';cases r with
 |none=>exact bc k
 |some v=>
  refine aA<|iZ k (λ_ f d=>?_) λ_ _ h'=>h';refine aA<|iZ d (λ_ g p=>aA<|iZ p (λok b l=>?_) λ_ _ h'=>h') λ_ _ h'=>h';cases ok with
  |false=>exact bc ⟨J,l⟩
  |true=>
   exact aA<|aA<|iZ l (λx i q=>aA<|iZ q (λ_ j t=>bc<|bc ⟨J,t⟩) λ_ _ h'=>h') λ_ _ h'=>h'
def tm(wi:TI)(g:TG)(tt:TT)(te:TE)(vs:List Nat):TE:=λz H Q=>wi z H λF H1=>∀D,H1 D=U->∃W:Nat->Nat->Hp->Prop,(∃m,W 0 m<|ab H1 D<|.ae [])/\∀i m H,W i m H->(F.stop i H/\Q (.ref D) H)\/(F.go i H/\∃Nx:Hp->Prop,(∀H',Nx H'->∃m',m'<m/\W (i+1) m' H')/\∀x H',F.fU i H x H'->g x (bo z vs) H' λσ2 H2=>bo σ2 vs=bo z vs/\tt σ2 H2 λb H3=>
  if b=true then te σ2 H3 λy H4=>∃acc,H4 D=O (.ae acc)/\acc.length<É/\Nx (ab H4 D<|.ae (acc++[y]))else Nx H3)
def Jf{Q}{use:Option (Á->Sem Unit)}{Qf:Á->Ì->Prop}(hc:X.gf=true) (hN:X.N.Nodup) (I:ay X pins z H s) (hi:PI X tg iter wi) (ok:wC X.N X.ah.scope scope own)(hg:∀s H C cl fp,PG (X.gc s H scope (č scope cl C X.ah) fp) tg g) (ht:∀s H C cl fp,xX (X.gc s H scope (č scope cl C X.ah) fp) ifs tt)(he:∀s H C cl fp,PE (X.gc s H scope (č scope cl C X.ah) fp) elt te) (hs:∀x,Ž iter X.ah x=pure x)(h:tm wi g tt te (own.map (·.2)) z H Q)(R:∀D C s' m H',ay X pins z H' s'->Q (.ref D) H'->s'.heap.Ns C m->kf X pins H' C->compPost (Í X.prog X.w) X.A X.xe use Qf (.ref D) C (.ok .next) s'):Ç (Í X.prog X.w) X.A (comprehension (.ListComp elt [⟨tg,iter,ifs,0⟩] scope pos) scope X.ah pos' (newList []) false (Ï iter X.ah) use) Qf X.xe s:=by
 have tX:∀y∈scope.names,y.2=.free->∃c,X.ah.cells.lookup y.1=O c:=λy S e=>by
  refine Or.elim (ok.free y S e) (λk=>?_) λk=>?_
  .exact I.ok.has _<|.inl k
  .exact I.ok.has _<|.inr k
 refine wpAny_comprehension_free J hs (SH tX) ok.kind λy S e=>by rw[ok.De y S,e]
  (aM (hi pins s z H _ I h) λxv s1 hx=>aM hx λGr t h2=>?_)
 obtain⟨it,fp,E,a2,H2,e,I2,T,eC,f2,q⟩:=h2;subst e;refine lZ (SI ?_) (by show 0<=É;decide);generalize F:t.heap.objs.size=D;have a1:H2 D=none:=I2.aF.fresh<|FR F;obtain⟨W,⟨m0,w0⟩,turn⟩:=q D a1;generalize Ph:({t with heap:=t.heap.push {cls:=.type "list",data:=.seq ([]).toArray}}:Ì)=s3;have G:ay X pins z (ab H2 D (.ae [])) s3:=by
  rw[<-Ph];refine I2.fH (λb o e=>b_ _ e) (FR F) ⟨cM _,[],0,.nil,?_⟩;rw[<-F];exact c7 _ J
 have h3:s3.heap=t.heap.push {cls:=.type "list",data:=.seq ([]).toArray}:=by rw[<-Ph]
 have sz:∀b∈fp,b<t.heap.objs.size:=λb a=>by
  obtain⟨o,e,_⟩:=T.obj _ _ eC b a;exact cG e
 have f:∀b∈fp,kf X pins (ab H2 D<|.ae []) b/\b<s3.heap.objs.size:=λb a=>by
  have aW:=sz b a;refine⟨⟨?_,(f2 b a).2⟩,by rw[h3,i_];exact F2 aW⟩;rw[au<|F▸gm aW];exact(f2 b a).1
 have gq:E 0 s3.heap:=T.keep _ _ _ eC λb _ o e=>h3▸b_ _ e;have K:=SJ G ok hN f;have pg:=hg s3 (ab H2 D<|.ae []) s3.heap.objs.size (ý (s3.heap.objs.size+1) scope.names<|fZ X.ah.cells scope.names []) fp;have pt:=ht s3 (ab H2 D<|.ae []) s3.heap.objs.size (ý (s3.heap.objs.size+1) scope.names<|fZ X.ah.cells scope.names []) fp;have V:=he s3 (ab H2 D<|.ae []) s3.heap.objs.size (ý (s3.heap.objs.size+1) scope.names<|fZ X.ah.cells scope.names []) fp;show ŏ _ _ (.compStart (.ListComp elt [⟨tg,iter,ifs,0⟩] scope pos) 0 (.ref it) (.ref D)<|č scope (ý (s3.heap.objs.size+1) scope.names<|fZ X.ah.cells scope.names []) s3.heap.objs.size X.ah) (compPost (Í X.prog X.w) X.A X.xe use Qf (.ref D) s3.heap.objs.size) {s3 with heap:=Ũ (s3.heap.push {cls:=.type "dict",data:=.dict #[]}) scope.names};have Pj:∀b∈fp,(ab H2 D<|.ae []) b=none:=λb a=>(f b a).1.1;generalize BV:č scope (ý (s3.heap.objs.size+1) scope.names<|fZ X.ah.cells scope.names []) s3.heap.objs.size X.ah=ce at K pg pt V⊢;have cL:ce.locals=s3.heap.objs.size:=by subst BV;rfl
 generalize hH3:ab H2 D (.ae [])=d at G K pg pt V w0 Pj f;generalize Y:({s3 with heap:=Ũ (s3.heap.push {cls:=.type "dict",data:=.dict #[]}) scope.names}:Ì)=s4 at K⊢;have Pk:E 0 s4.heap:=T.keep _ _ _ gq λb _ o e=>Y▸F0 _ _ _ _ (b_ _ e);have a3:∀{σ':St}{H':Hp}{s':Ì},ay (X.gc s3 d scope ce fp) [] σ' H' s'->(∀b∈fp,H' b=U)->∀b∈fp,kf (X.gc s3 d scope ce fp) [] H' b:=λ{σ' H' s'} w A b a=>
  ⟨A b a,(w.ok.BI b a).1,w.ok.wc b a,.inl a,λx c e=>(w.ok.BI b a).2 x c e,λp hp=>absurd (show p∈([]:List (À×Ó))++[]from hp) Gc⟩
 have loop:ŏ (Í X.prog X.w) X.A (.compLoop (.ListComp elt [⟨tg,iter,ifs,0⟩] scope pos) 0 (.ref it) (.ref D) ce) (compPost (Í X.prog X.w) X.A X.xe use Qf (.ref D) s3.heap.objs.size) s4:=by
  refine SM (λn s'=>c2 λi H'=>ay (X.gc s3 d scope ce fp) [] (bo z (own.map (·.2))) H' s'/\E i s'.heap/\(∀b∈fp,H' b=U)/\W i n H') ?_ m0 ⟨0,d,K,Pk,Pj,w0⟩;intro n s5 ⟨i,l,L,vx,n5,w5⟩;rcases turn i n l w5 with⟨stop,qq⟩|⟨go,Nx,hNx,step⟩
  .have td:=T.done (X.gc s3 d scope ce fp) J J J hc i [] s5 _ l (λ_ _=>False) L (a3 L n5) vx stop;refine uh td λr M q0=>?_;obtain ⟨hr,B⟩:=q0;subst hr;have N:ay X pins z l M:=G.QV B.os B.base B.aF B.fI λb a=>⟨(f b a).1.2.2.2.1,(f b a).1.2.1,(f b a).1.2.2.2.2.1,(f b a).1.2.2.2.2.2⟩
   have nC:l s3.heap.objs.size=none:=by
    have a4:l ce.locals=none:=B.free;rw[cL]at a4;exact a4
   obtain⟨m,A,_⟩:=B.iD;have A:M.heap.Ns ce.locals m:=A;rw[cL]at A;exact R D s3.heap.objs.size M m l N qq A<|G.qY (aN _) nC
  .have ti:=T.item (X.gc s3 d scope ce fp) J J J hc i [] s5 _ l (λ_ _=>False) L (a3 L n5) vx go;refine uh ti λr M ⟨u,hr,h6⟩=>?_;subst hr;refine uh h6 λ_ s7 ⟨x,H7,N,r7,y7,Gy,n7⟩=>?_;have I7':=N.HX (a3 N n7)<|T.obj _ _ Gy;refine uh (pg _ s7 _ H7 x u _ I7' r7<|step x H7 y7) λ_ s8 ⟨a0,H8,I8,Pl,q8⟩=>?_;refine uh (pt _ s8 a0 H8 _ I8 q8) λb s9 ⟨H9,I9,P⟩=>?_;have fin:∀{s':Ì}{H':Hp},ay (X.gc s3 d scope ce fp) ([]++wj fp s7.heap) a0 H' s'->Nx H'->∃m,m<n/\c2 λi H'=>ay (X.gc s3 d scope ce fp) [] (bo z (own.map (·.2))) H' s'/\E i s'.heap/\(∀b∈fp,H' b=U)/\W i m H':=λ{s' H'} w nx=>by
    obtain⟨m',hm,w'⟩:=hNx H' nx;have Jg:∀b∈fp,∀o,s7.heap.get? b=O o->s'.heap.get? b=O o/\H' b=none:=λb a o e=>
     let a4:=w.j4 (b,o)<|qx _<|qx _<|CS a e
     ⟨a4.1,a4.2.1⟩
    have hl:(bo z (own.map (·.2))).length=a0.length:=by rw[<-Pl,Df]
    refine⟨m',hm,i+1,H',(w.y_).weak hl λj v e=>?_,T.keep _ _ _ Gy λb a o e=>(Jg b a o e).1,λb a=>?_,w'⟩
    .rw[<-Pl]at e;exact(Dg e).1
    .obtain⟨o,e,_⟩:=T.obj _ _ Gy b a;exact(Jg b a o e).2
   cases b with
   |false=>
    simp only[oK,i']at P⊢;exact fin I9 P
   |true=>
    simp only[fi]at P⊢;refine uh (V _ s9 a0 H9 _ I9 P) λa4 s10 ⟨yv,H10,I10,r10,acc,SN,SO,nx⟩=>?_;exact SL (X:=X.gc s3 d scope ce fp) I10 SN SO r10 λs11 I11=>fin I11 nx
 exact codeAny_compStart_list loop<|T.self X.A 0 _ _ _ Pk loop
def wE(a:X.gf=true)(c:X.N.Nodup)(hi:PI X tg iter wi)(ok:wC X.N X.ah.scope scope own)(d:∀s H C cl fp,PG (X.gc s H scope (č scope cl C X.ah) fp) tg g) (i:∀s H C cl fp,xX (X.gc s H scope (č scope cl C X.ah) fp) ifs tt)(he:∀s H C cl fp,PE (X.gc s H scope (č scope cl C X.ah) fp) elt te) (j:∀x,Ž iter X.ah x=pure x:=by intro _;rfl):PE X (.ListComp elt [⟨tg,iter,ifs,0⟩] scope pos) (tm wi g tt te (own.map (·.2))):=by
 intro pins s z H Q I h;rw[eval_ListComp];refine Jf a c I hi ok d i he j h λD C s' m H' k q l f=>⟨m,l,λy n=>?_⟩
 obtain⟨p,r,F,t,u,v⟩:=f;exact⟨.ref D,H',k.fJ (λb o w e=>(n.2 b w).trans e) p r t u v,J,q⟩
def SQ{y:Ã}{c:Pos}{k:Pos}(t:X.gf=true)(l:X.N.Nodup)(u:X.N[i]?=O y)(n:X.ah.scope.names.lookup y=O .local)(w:ō (.ListComp elt [⟨tg,iter,ifs,0⟩] scope pos) (O (.Name y c)) k.line X.ah=pure true) (hi:PI X tg iter wi) (ok:wC X.N X.ah.scope scope own)(A:∀s H C cl fp,PG (X.gc s H scope (č scope cl C X.ah) fp) tg g) (B:∀s H C cl fp,xX (X.gc s H scope (č scope cl C X.ah) fp) ifs tt)(he:∀s H C cl fp,PE (X.gc s H scope (č scope cl C X.ah) fp) elt te) (E:∀x,Ž iter X.ah x=pure x:=by intro _;rfl):PS X (.Assign [.Name y c] (.ListComp elt [⟨tg,iter,ifs,0⟩] scope pos) k) (t_ (tm wi g tt te (own.map (·.2))) (fu i)):=by
 intro pins s z H D I h;rw[exec_Assign_Name_used _ _ _ _ w];refine aA<|FQ<|aA ?_;let h:tm wi g tt te (own.map (·.2)) z H (λx H1=>fu i x z H1 D.nx):=h;refine aA<|aM (Jf t l I hi ok A B he E h λL C s' m H' F q G f=>?_) λ_ s' a2=>bc<|bc a2;refine Åh (HL (v:=V.ref L) F l u (.inl n) J (λK M ⟨a,N,a0⟩=>?_)<|.inr n);obtain⟨P,p,T,Q,r,R⟩:=f;let d:C≠a:=by
  rcases a0 with a3|a3
  .exact a3▸p
  .exact λe=>r y a a3 e.symm
 refine⟨m,G.sameBut N d,λa1 j=>?_⟩;exact⟨_,H',M.fJ (λb o S e=>(j.2 b S).trans e) P p Q r R,q⟩
def Dh{lo:Int}{vs:List Nat}(a:Nat->Hp->Prop)(l:a 0 (ab H1 D (.ae [])))(o:∀i H,i<n->a i H->g (.int (lo+i)) (bo z vs) H λc H2=>bo c vs=bo z vs/\tt c H2 λb d=>if b=true then te c d λy f=>∃acc,f D=O (.ae acc)/\acc.length<É/\a (i+1) (ab f D (.ae (acc++[y])))else a (i+1) d) (hd:∀H,a n H->Qd H):∃W:Nat->Nat->Hp->Prop,(∃m,W 0 m (ab H1 D (.ae [])))/\∀i m H,W i m H->((pH lo n).stop i H/\Qd H)\/((pH lo n).go i H/\∃h:Hp->Prop,(∀H',h H'->∃k,k<m/\W (i+1) k H')/\∀x H',(pH lo n).fU i H x H'->g x (bo z vs) H' λc H2=>bo c vs=bo z vs/\tt c H2 λb d=>if b=true then te c d λy f=>∃acc,f D=O (.ae acc)/\acc.length<É/\h (ab f D (.ae (acc++[y])))else h d):=by
 refine⟨λi m H=>m=n-i/\i<=n/\a i H,⟨n,Gc,cM _,l⟩,?_⟩;rintro i m H ⟨rfl,hi,p⟩;by_cases j:i<n
 .refine .inr ⟨j,a (i+1),λH' q=>⟨n-(i+1),Z,J,j,q⟩,λx H' y=>?_⟩;obtain⟨e,y⟩:=y;subst e y;exact o i _ j p
 .have e:i=n:=Z;subst e;exact .inl ⟨aN _,hd H p⟩
def ui{vs:List Nat}(c:Nat->Hp->Prop)(n:c 0 (ab H1 D (.ae [])))(o:∀i H,i<=xs.length->c i H->ao K H a xs)(r:∀i x H,xs[i]?=O x->c i H->g x (bo z vs) H λd H2=>bo d vs=bo z vs/\tt d H2 λb f=>if b=true then te d f λy h=>∃acc,h D=O (.ae acc)/\acc.length<É/\c (i+1) (ab h D (.ae (acc++[y])))else c (i+1) f) (hd:∀H,c xs.length H->Qd H):∃W:Nat->Nat->Hp->Prop,(∃m,W 0 m (ab H1 D (.ae [])))/\∀i m H,W i m H->((iG K a).stop i H/\Qd H)\/((iG K a).go i H/\∃j:Hp->Prop,(∀H',j H'->∃k,k<m/\W (i+1) k H')/\∀x H',(iG K a).fU i H x H'->g x (bo z vs) H' λd H2=>bo d vs=bo z vs/\tt d H2 λb f=>if b=true then te d f λy h=>∃acc,h D=O (.ae acc)/\acc.length<É/\j (ab h D (.ae (acc++[y])))else j f):=by
 refine⟨λi m H=>m=xs.length-i/\i<=xs.length/\c i H,⟨xs.length,Gc,cM _,n⟩,?_⟩;rintro i m H ⟨rfl,hi,p⟩;have q:=o i H hi p;by_cases l:i<xs.length
 .refine .inr ⟨⟨xs,xs[i],q,by simp[l]⟩,c (i+1),λH' s=>⟨xs.length-(i+1),Z,J,l,s⟩,λx H' y=>?_⟩;obtain⟨e,y⟩:=y;subst e;exact r i x _ (y xs q) p
 .have e:i=xs.length:=Z;subst e;exact .inl ⟨⟨xs,q,aN _⟩,hd H p⟩
def Di{vs:List Nat}(c:Nat->Hp->Prop)(n:c 0 (ab H1 D (.ae [])))(o:∀i H,i<=xs.length->c i H->aV K H a xs)(r:∀i x H,xs[i]?=O x->c i H->g x (bo z vs) H λd H2=>bo d vs=bo z vs/\tt d H2 λb f=>if b=true then te d f λy h=>∃acc,h D=O (.ae acc)/\acc.length<É/\c (i+1) (ab h D (.ae (acc++[y])))else c (i+1) f) (hd:∀H,c xs.length H->Qd H):∃W:Nat->Nat->Hp->Prop,(∃m,W 0 m (ab H1 D (.ae [])))/\∀i m H,W i m H->((j6 K a).stop i H/\Qd H)\/((j6 K a).go i H/\∃j:Hp->Prop,(∀H',j H'->∃k,k<m/\W (i+1) k H')/\∀x H',(j6 K a).fU i H x H'->g x (bo z vs) H' λd H2=>bo d vs=bo z vs/\tt d H2 λb f=>if b=true then te d f λy h=>∃acc,h D=O (.ae acc)/\acc.length<É/\j (ab h D (.ae (acc++[y])))else j f):=by
 refine⟨λi m H=>m=xs.length-i/\i<=xs.length/\c i H,⟨xs.length,Gc,cM _,n⟩,?_⟩;rintro i m H ⟨rfl,hi,p⟩;have q:=o i H hi p;by_cases l:i<xs.length
 .refine .inr ⟨⟨xs,xs[i],q,by simp[l]⟩,c (i+1),λH' s=>⟨xs.length-(i+1),Z,J,l,s⟩,λx H' y=>?_⟩;obtain⟨e,y⟩:=y;subst e;exact r i x _ (y xs q) p
 .have e:i=xs.length:=Z;subst e;exact .inl ⟨⟨xs,q,aN _⟩,hd H p⟩
noncomputable def zr(N:List Ã)(sc scope:Ō)(own:List (Ã×Nat)):Bool:=(match scope.kind with |.function=>true|_=>false)&&(scope.names.all λy=>decide<|scope.names.lookup y.1=O y.2)&&(own.all λp=>decide<|N[p.2]?=O p.1)&&(scope.names.all λy=>match y.2 with
   |.free=>(match sc.names.lookup y.1 with|some .cell=>true|some .free=>true|_=>false)
   |.local|.cell=>decide (y.1∈own.map (·.1))||decide (y.1∉N)
   |_=>true)
def uj(h:zr N sc scope own=true):wC N sc scope own:=by
 unfold zr at h;simp only[aS,dQ,du]at h;obtain⟨⟨⟨h1,h2⟩,c⟩,b⟩:=h;refine⟨?_,h2,c,λy a e=>?_,λy a e=>?_⟩
 .split at h1
  .assumption
  .cases h1
 .let q:=b y a;simp only[e]at q;split at q<;>first|exact .inl (by assumption)|exact .inr (by assumption)|cases q
 .let q:=b y a;rcases e with e|e<;>(simp only[e,j3,du]at q;exact q)
section
variable [DecidableEq κ]
noncomputable def bT(ag:List (κ×V))(k:κ):Option V:=(ag.find? λkv=>decide (kv.1=k)).map (·.2)
noncomputable def de(ag:List (κ×V))(k:κ)(v:V):List (κ×V):=if(ag.any λkv=>decide (kv.1=k))=true then ag.map (λkv=>if kv.1=k then(kv.1,v)else kv)else ag++[(k,v)]
def uk:bT ([]:List (κ×V)) k=none:=rfl
def jo{p:κ×V}{r:List (κ×V)}{k:κ}(e:p.1=k):bT (p::r) k=O p.2:=by simp[bT,List.find?_cons,e]
def ci{p:κ×V}{r:List (κ×V)}{k:κ}(e:¬p.1=k):bT (p::r) k=bT r k:=by simp[bT,List.find?_cons,e]
theorem pR(k:κ):∀ag:List (κ×V),(ag.any λa=>decide (a.1=k))=(bT ag k).isSome
|[]=>rfl
|p::r=>by
 rw[kP];by_cases e:p.1=k
 .simp only[jo e,bP e,Bool.true_or,Option.isSome_some]
 .rw[ci e,bO e,F3];exact pR k r
theorem Jh(k j:κ)(y:V):∀ag:List (κ×V),bT (ag.map λa=>if a.1=k then(a.1,y)else a) j=(bT ag j).map λx=>if j=k then y else x
|[]=>rfl
|p::r=>by
 let b:=Jh k j y r;rw[bz];by_cases h:p.1=k
 .rw[aj h];by_cases e:p.1=j
  .rw[jo (p:=(p.1,y)) e,jo e,qz,aj<|e.symm.trans h]
  .rw[ci (p:=(p.1,y)) e,ci e,b]
 .rw[ai h];by_cases e:p.1=j
  .rw[jo (p:=p) e,jo e,qz,ai λz=>h<|e.trans z]
  .rw[ci (p:=p) e,ci e,b]
theorem Ji(k j:κ)(y:V):∀ag:List (κ×V),bT ag k=U->bT (ag++[(k,y)]) j=if j=k then O y else bT ag j
|[]=>λ_=>by
 by_cases e:k=j
 .rw[aj e.symm];exact jo (p:=(k,y)) e
 .rw[ai λz=>e z.symm];exact ci (p:=(k,y)) e
|p::r=>λa=>by
 rw[Om];have hk:¬p.1=k:=λz=>by rw[jo z]at a;cases a
 rw[ci hk]at a;have b:=Ji k j y r a;by_cases e:p.1=j
 .rw[jo e,jo e,ai λz=>hk<|e.trans z]
 .rw[ci e,ci e,b]
def wH(ag:List (κ×V))(k j:κ)(y:V):bT (de ag k y) j=if j=k then O y else bT ag j:=by
 unfold de;by_cases a:(ag.any λb=>decide (b.1=k))=true
 .rw[aj a,Jh];rw[pR]at a;by_cases e:j=k
  .obtain⟨x,c⟩:=ae0.mp a;rw[aj e,e,c,qz,aj J]
  .rw[ai e];cases bT ag j with
   |none=>rfl
   |some x=>rw[qz,ai e]
 .rw[ai a];refine Ji k j y ag ?_;rw[pR]at a;cases q:bT ag k with
  |none=>rfl
  |some x=>rw[q]at a;exact(a J).elim
def pS(ag:List (κ×V))(k:κ)(v:V):(de ag k v).length<=ag.length+1:=by
 unfold de;split
 .rw[aK];lia
 .rw[bw,aJ,f9];lia
def zt{ag:List (κ×V)}{k:κ}(v:V)(h:bT ag k=U):de ag k v=ag++[(k,v)]:=by unfold de;rw[pR,h];exact ai gn
def gx.rq{o:Option V}{u:Option Á}(r:gx o u):o.isSome=u.isSome:=by
 cases o with
 |none=>cases u with
  |none=>rfl
  |some _=>exact(show False from r).elim
 |some _=>cases u with
  |none=>exact(show False from r).elim
  |some _=>rfl
def gx.getD{o:Option V}{u:Option Á}{d:V}{d':Á}(r:gx o u)(rd:bm d d'):bm (o.getD d) (u.getD d'):=by
 cases o with
 |none=>cases u with
  |none=>exact rd
  |some _=>exact(show False from r).elim
 |some _=>cases u with
  |none=>exact(show False from r).elim
  |some _=>exact r
def KV.val{ag:List (κ×V)}(r:KV ag vs)(k:κ):gx (bT ag k) (ũ vs k):=by
 induction r with
 |nil=>exact Ő
 |@cons p q ps qs h t c=>
  obtain⟨h1,h2⟩:=h;by_cases e:p.1=k
  .let a:q.1=k:=h1.symm.trans e;let b:ũ (q::qs) k=O q.2:=by simp[ũ,List.find?_cons,a]
   exact jo e▸b▸h2
  .let a:¬q.1=k:=λz=>e<|h1.trans z;let b:ũ (q::qs) k=ũ qs k:=by simp[ũ,List.find?_cons,a]
   rw[ci e,b];exact c
def KV.any{ag:List (κ×V)}(r:KV ag vs)(k:κ):(ag.any λa=>decide (a.1=k))=vs.any λa=>decide (a.1=k):=by
 induction r with
 |nil=>rfl
 |cons h t b=>rw[kP,kP,b,h.1]
def KV.Dj{ag:List (κ×V)}(r:KV ag vs)(k:κ)(ry:bm y u):KV (ag.map λa=>if a.1=k then(a.1,y)else a) (vs.map λa=>if a.1=k then(a.1,u)else a):=by
 induction r with
 |nil=>exact .nil
 |@cons p q ps qs h t b=>
  rw[bz,bz];refine .cons ?_ b;obtain⟨h1,h2⟩:=h;by_cases e:p.1=k
  .rw[aj e,aj<|h1.symm.trans e];exact⟨h1,ry⟩
  .rw[ai e,ai λz=>e<|h1.trans z];exact⟨h1,h2⟩
def KV.g_{ag:List (κ×V)}(r:KV ag vs)(k:κ)(ry:bm y u):KV (de ag k y) (stored vs k u):=by
 unfold de stored;rw[r.any k];by_cases e:(vs.any λa=>decide (a.1=k))=true
 .exact aj e▸aj e▸r.Dj k ry
 .exact ai e▸ai e▸Paired.snoc r ⟨J,ry⟩
def KV.length{ag:List (κ×V)}(r:KV ag vs):ag.length=vs.length:=rZ r
end
def kq(r:bm (kV k) u):(eV P w).is k u=true:=by
 cases k with
 |inl i=>obtain⟨t,e⟩:=(show ∃t,u=Ÿ i t from r);subst e;exact QK P w i t
 |inr x=>obtain⟨t,e⟩:=(show ∃t,u=ś x t from r);subst e;exact QL P w x t
theorem Jj{P:ò}{w:è}:∀{ks:List aL}{us:List Á},aX (ks.map kV) us->ItemsAre (eV P w) ks us
|[],_,r=>by rw[mP]at r;cases r;exact .nil
|k::ks,_,r=>by
 rw[bz]at r;cases r with
 |cons h t=>exact .cons (kq h)<|Jj t
abbrev KT(H:Hp):List (List aL×V)->List (List aL×À×Á)->Prop:=Paired λp q=>p.1=q.1/\H q.2.1=O (.be<|p.1.map kV)/\bm p.2 q.2.2
def KT.val{ag:List (List aL×V)}{xs:List (List aL×À×Á)}(r:KT H ag xs)(k:List aL):gx (bT ag k) ((Œ xs k).map (·.2)):=by
 induction r with
 |nil=>exact Ő
 |@cons p q ps qs h t c=>
  obtain⟨h1,_,h2⟩:=h;by_cases e:p.1=k
  .let a:q.1=k:=h1.symm.trans e;let b:Œ (q::qs) k=O q.2:=by simp[Œ,List.find?_cons,a]
   exact jo e▸b▸h2
  .let a:¬q.1=k:=λz=>e<|h1.trans z;let b:Œ (q::qs) k=Œ qs k:=by simp[Œ,List.find?_cons,a]
   rw[ci e,b];exact c
def KT.Dj{ag:List (List aL×V)}{xs:List (List aL×À×Á)}(r:KT H ag xs)(k:List aL)(ry:bm y u):KT H (ag.map λa=>if a.1=k then(a.1,y)else a) (xs.map (putAt k u)):=by
 induction r with
 |nil=>exact .nil
 |@cons p q ps qs h t b=>
  rw[bz,bz];refine .cons ?_ b;obtain⟨h1,h2,c⟩:=h;unfold putAt;by_cases e:p.1=k
  .rw[aj e,aj<|h1.symm.trans e];exact⟨h1,h2,ry⟩
  .rw[ai e,ai λz=>e<|h1.trans z];exact⟨h1,h2,c⟩
def KT.g_{ag:List (List aL×V)}{xs:List (List aL×À×Á)}(r:KT H ag xs)(k:List aL)(a:H b=O (.be (k.map kV)))(ry:bm y u):KT H (de ag k y) (storedH xs k b u):=by
 let e:(ag.any λc=>decide (c.1=k))=(Œ xs k).isSome:=by rw[pR,(r.val k).rq,On]
 unfold de storedH;rw[e];by_cases q:(Œ xs k).isSome=true
 .exact aj q▸aj q▸r.Dj k ry
 .exact ai q▸ai q▸Paired.snoc r ⟨J,a,ry⟩
def KT.keeps{ag:List (List aL×V)}{xs:List (List aL×À×Á)}(r:KT H ag xs)(a:∀b ys,H b=O (.be ys)->H' b=O (.be ys)):KT H' ag xs:=Paired.CH r λ_ _ z=>⟨z.1,a _ _ z.2.1,z.2.2⟩
def Jk{u:HO}(ok:dv P w H h)(e:Rd H a u):dM P w H h a u:=e.ok ok
def pT(ok:dv P w H h)(e:Rd H a (.dK ag)):ag.length<=É/\(a==Ĉ)=false/\∃vs,KV ag vs/\h.DictOf (eV P w) a vs:=show dM P w H h a (.dK ag)from Jk ok e
def zu(ok:dv P w H h)(e:H a=O (.dK ag)):ag.length<=É/\(a==Ĉ)=false/\∃vs,KV ag vs/\h.DictOf (eV P w) a vs:=pT ok<|.inl e
def um{ks:List aL}(ok:dv P w H h)(e:H a=O (.be (ks.map kV))):(δ (eV P w)).is h ks a:=by obtain⟨_,aD,r,o,h1,h2,n,b⟩:=(show dM P w H h a (.be<|ks.map kV)from ok a _ e);exact⟨o,aD.toArray,n,h1,h2,b,by simpa using Jj r⟩
def rA{ag:List (List aL×V)}(ok:dv P w H h)(e:Rd H a (.dT ag)):ag.length<=É/\(a==Ĉ)=false/\∃xs,KT H ag xs/\h.DictOfH (δ (eV P w)) a xs:=by
 refine gg λP0 p0=>?_;obtain⟨z,y,xs,r,o,es,ep,h1,h2,d,f,g⟩:=(show dM P w H h a (.dT ag)from Jk ok e);refine p0 ?_;refine⟨z,y,xs,r,o,es,ep,h1,h2,d,f,λx b=>?_,g⟩;let all:∀{l:List (List aL×V)}{m:List (List aL×À×Á)},KT H l m->∀x∈m,(δ<|eV P w).is h x.1 x.2.1:=by
  intro l m q;induction q with
  |nil=>intro x b;exact nomatch b
  |@cons p q ps qs c t i=>
   intro x b;rcases a_.mp b with e|b
   .subst e;exact um ok (c.1▸c.2.1)
   .exact i x b
 exact all r x b
def SR{ag:List (List aL×V)}(ok:dv P w H h)(e:H a=O (.dT ag)):ag.length<=É/\(a==Ĉ)=false/\∃xs,KT H ag xs/\h.DictOfH (δ (eV P w)) a xs:=rA ok<|.inl e
def fE(H:Hp)(a:À)(y:V)(r:Option V):Prop:=(c2 λag k=>Rd H a (.dK ag)/\y=kV k/\r=bT ag k)\/c3 λag k b=>Rd H a (.dT ag)/\y=.ref b/\H b=O (.be<|k.map kV)/\r=bT ag k
def lp(H:Hp)(a:À)(y v:V)(H':Hp):Prop:=(c2 λag k=>H a=O (.dK ag)/\y=kV k/\ag.length<É/\H'=ab H a (.dK<|de ag k v))\/c3 λag k b=>H a=O (.dT ag)/\y=.ref b/\H b=O (.be<|k.map kV)/\ag.length<É/\H'=ab H a (.dT<|de ag k v)
def fE.k{k:aL}(e:H a=O (.dK ag)):fE H a (kV k) (bT ag k):=.inl ⟨ag,k,.inl e,J,J⟩
def fE.t{ag:List (List aL×V)}{k:List aL}(e:H a=O (.dT ag))(c:H b=O (.be (k.map kV))):fE H a (.ref b) (bT ag k):=.inr ⟨ag,k,b,.inl e,J,c,J⟩
def lp.k{k:aL}(e:H a=O (.dK ag))(b:ag.length<É):lp H a (kV k) v (ab H a (.dK (de ag k v))):=.inl ⟨ag,k,e,J,b,J⟩
def lp.t{ag:List (List aL×V)}{k:List aL}(e:H a=O (.dT ag))(c:H b=O (.be (k.map kV)))(d:ag.length<É):lp H a (.ref b) v (ab H a (.dT (de ag k v))):=.inr ⟨ag,k,b,e,J,c,d,J⟩
section
variable {r:Á} {o:Option V}
def ay.GA(I:ay X pins z H s):Ĉ<s.heap.objs.size:=by let h:î<s.heap.objs.size:=(I.mod.n6.keeps I.bk).lt;exact Nat.lt_trans gn h
def SS(m:A.units+1<Ĥ)(I:ay X pins z H s)(g:fE H a y (O v))(ry:bm y u)(h:∀c s',ay X pins z H s'->bm v c->Q c s'):Ç (Í X.prog X.w) A (Ŏ (.ref a) u) Q E s:=by
 rcases g with⟨ag,k,e,d,l⟩|⟨ag,k,b,e,d,n,l⟩
 .subst d;obtain⟨F,hd,vs,cQ,f⟩:=pT I.aF e;obtain⟨c,i,j⟩:=gx.zc (l▸cQ.val k);exact Çe (kq ry) f.mapOf i (h c _ (I.cN _) j)
 .subst d;cases(show u=ç b from ry);obtain⟨F,hd,xs,cQ,f⟩:=rA I.aF e;obtain⟨c,i,j⟩:=gx.zc (l▸cQ.val k);obtain⟨p,q,r⟩:=ae6.mp i;refine wpAny_getItem_heap (Bn m) (um I.aF n) f q ?_;exact r▸h c _ (I.cN _) j
def SU(f:A.units+1<Ĥ)(I:ay X pins z H s)(g:fE H a y o)(ry:bm y u)(h:∀s',ay X pins z H s'->Q (.bool o.isSome) s'):Ç (Í X.prog X.w) A (ó .In u (.ref a)) Q E s:=by
 rcases g with⟨ag,k,e,c,l⟩|⟨ag,k,b,e,c,i,l⟩
 .subst c;obtain⟨F,hd,vs,cQ,d⟩:=pT I.aF e;refine wpAny_in_of (kq ry) hd d.mapOf ?_;exact(cQ.val k).rq▸l▸h _ (I.cN _)
 .subst c;cases(show u=ç b from ry);obtain⟨F,hd,xs,cQ,d⟩:=rA I.aF e;refine wpAny_in_heap (Bn f) (um I.aF i) hd d ?_;have q:=(cQ.val k).rq;rw[On]at q;exact q▸l▸h _ (I.cN _)
def SV(f:A.units+1<Ĥ)(I:ay X pins z H s)(g:fE H a y o)(ry:bm y u)(h:∀s',ay X pins z H s'->Q (.bool (!o.isSome)) s'):Ç (Í X.prog X.w) A (ó .NotIn u (.ref a)) Q E s:=by
 rcases g with⟨ag,k,e,c,l⟩|⟨ag,k,b,e,c,i,l⟩
 .subst c;obtain⟨F,hd,vs,cQ,d⟩:=pT I.aF e;refine wpAny_notIn_of (kq ry) hd d.mapOf ?_;exact(cQ.val k).rq▸l▸h _ (I.cN _)
 .subst c;cases(show u=ç b from ry);obtain⟨F,hd,xs,cQ,d⟩:=rA I.aF e;refine wpAny_notIn_heap (Bn f) (um I.aF i) hd d ?_;have q:=(cQ.val k).rq;rw[On]at q;exact q▸l▸h _ (I.cN _)
def zw(I:ay X pins z H s)(c:qA (H a))(d:Ĩ a s.heap h')(he:∃q,h'.get? a=O q)(new:dM X.prog X.w (ab H a ob) h' a ob):ay X pins z (ab H a ob) {s with heap:=h',toks:=t'}:=I.mo c (.inl J) (λb q f F=>(d.2 b f).trans F) he new
def Dl{vs:List (aL×Á)}(z:ag.length<=É)(hd:(a==Ĉ)=false)(cQ:KV ag vs)(b:h'.DictOf (eV P w) a vs):dM P w H' h' a (.dK ag):=⟨z,hd,vs,cQ,b⟩
def SW{Q:Unit->Ì->Prop}(B:A.units+1<Ĥ)(I:ay X pins z H s)(g:lp H a y v H')(ry:bm y u)(t:bm v r)(h:∀s',ay X pins z H' s'->Q () s'):Ç (Í X.prog X.w) A (ϣ (.ref a) u r) Q E s:=by
 rcases g with⟨ag,k,e,i,l,j⟩|⟨ag,k,b,e,i,w,l,j⟩
 .subst i j;have⟨J,hd,vs,cQ,m⟩:=zu I.aF e;have n:vs.length<=sizeLine:=cQ.length▸J;have o:(de ag k v).length<=sizeLine:=by have:=pS ag k v;lia
  refine wpAny_setItem_pairs (kq ry) m λh' d p=>h _ ?_;have C:∃q,h'.get? a=O q:=let⟨q,_,_,f,_⟩:=d;⟨q,f⟩;exact zw I (e▸Ő) p C (Dl o hd (cQ.g_ k t) d)
 .subst i j;cases(show u=ç b from ry);have⟨J,hd,xs,cQ,m⟩:=SR I.aF e;have n:xs.length<=sizeLine:=rZ cQ▸J;have o:(de ag k v).length<=sizeLine:=by have:=pS ag k v;lia
  refine wpAny_setItem_heap (Bn B) (um I.aF w) m λh' d p=>h _ ?_;obtain⟨q,es,ep,f,h2,D,F,_,G⟩:=d;refine zw I (e▸Ő) p ⟨q,f⟩ ⟨o,hd,_,(cQ.g_ k w t).keeps λc ys x=>?_,q,es,ep,f,h2,D,F,G⟩;exact au (aY x e λJ=>nomatch J)▸x
end
section
variable {k:aL}
def SX(I:ay X pins z H s)(e:Rd H a (.dK ag))(h:∀t s',ay X pins z H s'->Q (.int ag.length t) s'):Ç (Í X.prog X.w) A (call (.builtin "len") [.ref a]) Q E s:=by obtain⟨F,hd,vs,cQ,b⟩:=pT I.aF e;refine call_len_dict hd b (by rw[<-cQ.length];rw[bn]at F;omega) ?_;rw[<-cQ.length];exact h _ _<|I.cN _
end
def Dm(i:â):Prop:=∀ov iv,ϫ i false ov iv=operate [ov,iv] (Ŏ ov iv)
def Jl{id}(f:ξ (.type T) "__getitem__"=pure (O (.builtin id))) (g:Dm slice)(h:Ç (Í prog w) A (Ï value ah) (λo c=>Ç (Í prog w) A (Ï slice ah) (λi a=>a.TypeIs o T/\Ç (Í prog w) A (Ŏ o i) Q E a) E c) E s):Ç (Í prog w) A (Ï (.Subscript value slice pos) ah) Q E s:=by
 refine Âc<|iZ h (λo c j=>iZ j (λi a b=>?_) λ_ _ x=>x) λ_ _ x=>x;obtain⟨d,b⟩:=b;refine aA ?_;rw[getitemInPython_of_ne d.not_modules];refine aA<|Çf d f ?_;let fin:Ç (Í prog w) A (ϫ slice false o i) (λr e=>Ç (Í prog w) A (letTemporaryGo value o r >>=λ_=>pure r) Q E e) E a:=by
  rw[g o i];exact wpAny_operating<|iZ b (λr e k=>aA<|wpAny_letTemporaryGo<|bc k) λ_ _ x=>x
 first
  |exact bc<|aA fin
  |exact aA<|bc<|aA fin
  |exact aA fin
def SY{o:Option V}(I:ay X pins z H s)(g:fE H a y o):s.TypeIs (.ref a) "dict":=by
 rcases g with⟨ag,k,e,_,_⟩|⟨ag,k,b,e,_,_,_⟩
 .have⟨_,_,vs,_,c⟩:=pT I.aF e;exact c.typeIs
 .obtain⟨_,_,xs,_,c⟩:=rA I.aF e;exact c.typeIs
inductive SZ'(Q:VK)(x:V)(y:V)(H2:Hp):Prop|m(a v:_)(_:x=.ref a)(_:fE H2 a y (O v))(_:Q v H2)
def SZ(td ty:TE):TE:=λz H Q=>td z H λx H1=>ty z H1<|SZ' Q x
inductive S3'(Q:VK)(y:V)(x:V)(H2:Hp):Prop|m(a o:_)(_:x=.ref a)(_:fE H2 a y o)(_:Q (.bl o.isSome) H2)
def S3(ty td:TE):TE:=λz H Q=>ty z H λy H1=>td z H1<|S3' Q y
inductive S4'(Q:VK)(y:V)(x:V)(H2:Hp):Prop|m(a o:_)(_:x=.ref a)(_:fE H2 a y o)(_:Q (.bl (!o.isSome)) H2)
def S4(ty td:TE):TE:=λz H Q=>ty z H λy H1=>td z H1<|S4' Q y
inductive S5'(D:iS)(z:St)(v x:V)(y:V)(H3:Hp):Prop|m(a H4:_)(_:x=.ref a)(_:lp H3 a y v H4)(_:D.nx z H4)
def S5(td ty tv:TE):TS:=λD z H=>tv z H λv H1=>td z H1 λx H2=>ty z H2<|S5' D z v x
section
variable {i:â} {ty:TE}
def Dn(c:X.A.units+1<Ĥ)(d:PE X o td)(hi:PE X i ty)(e:Dm i):PE X (.Subscript o i pos) (SZ td ty):=λpins s z H Q I h=>by refine Jl ae8.lookup e<|aM (d pins s z H _ I h) λu f ⟨x,H1,j,rx,k⟩=>aM (hi pins f z H1 _ j k) λp q q0=>?_;obtain⟨y,H2,b,ry,a,v,ex,g,l⟩:=q0;subst ex;obtain rfl:u=ç a:=rx;exact⟨SY b g,SS c b g ry λr t m n=>⟨v,H2,m,n,l⟩⟩
def Jm(b:X.A.units+1<Ĥ)(hi:PE X i ty)(c:PE X o td):PC X .In i o (S3 ty td):=λpins s z H Q I h=>aM (hi pins s z H _ I h) λn d ⟨y,H1,e,ry,f⟩=>aM (c pins d z H1 _ e f) λu p ⟨x,H2,j,rx,a,k,ex,g,l⟩=>by subst ex;obtain rfl:u=ç a:=rx;exact SU b j g ry λq m=>⟨.bl k.isSome,H2,m,J,l⟩
def Jn(b:X.A.units+1<Ĥ)(hi:PE X i ty)(c:PE X o td):PC X .NotIn i o (S4 ty td):=λpins s z H Q I h=>aM (hi pins s z H _ I h) λn d ⟨y,H1,e,ry,f⟩=>aM (c pins d z H1 _ e f) λu p ⟨x,H2,j,rx,a,k,ex,g,l⟩=>by subst ex;obtain rfl:u=ç a:=rx;exact SV b j g ry λq m=>⟨.bl (!k.isSome),H2,m,J,l⟩
def wI(b:X.A.units+1<Ĥ)(c:PE X o td)(hi:PE X i ty)(d:PE X value tv)(e:ō value (O (.Subscript o i pos')) pos.line X.ah=pure false):PS X (.Assign [.Subscript o i pos'] value pos) (S5 td ty tv):=λpins s z H D I h=>by
 refine wpAny_Assign_Subscript (aM (d pins s z H _ I h) λr f ⟨v,H1,j,k,l⟩=>aM (c pins f z H1 _ j l) λu m ⟨x,H2,n,rx,p⟩=>aM (hi pins m z H2 _ n p) λA B ⟨y,C,q,ry,a,t,ex,g,w⟩=>?_) e;subst ex;obtain rfl:u=ç a:=rx;exact SW b q g ry k λE F=>⟨z,t,F,w⟩
end
def Jo(h:á)(a:Ĉ<h.objs.size):dM P w H (h.push {cls:=.type "dict",data:=.dict #[]}) h.objs.size (.dK []):=⟨cM _,gk.mpr<|cB<|gm a,[],.nil,Ña h⟩
def S6(h:á)(a:Ĉ<h.objs.size):dM P w H (h.push {cls:=.type "dict",data:=.dict #[]}) h.objs.size (.dT []):=⟨cM _,gk.mpr<|cB<|gm a,[],.nil,_,#[],0,c7 _ J,⟨J,J,J⟩,J,J,F4⟩
def S7:TE:=λ_ H Q=>∀p,H p=U->Q (.ref p) (ab H p<|.dK [])
def S8:TE:=λ_ H Q=>∀p,H p=U->Q (.ref p) (ab H p<|.dT [])
def zx:PE X (.Dict [] [] pos) S7:=λpins s z H Q I h=>Çg ⟨.ref s.heap.objs.size,_,I.fH (λ_ _ q=>b_ _ q) (aN _)<|Jo s.heap I.GA,J,h _<|I.aF.fresh<|aN _⟩
def S9:PE X (.Dict [] [] pos) S8:=λpins s z H Q I h=>Çg ⟨.ref s.heap.objs.size,_,I.fH (λ_ _ q=>b_ _ q) (aN _)<|S6 s.heap I.GA,J,h _<|I.aF.fresh<|aN _⟩
def Do:List (TE×TE)->St->Hp->(List (V×V)->Hp->Prop)->Prop
|[],_,H,Q=>Q [] H
|(tk,tv)::r,z,H,Q=>tk z H λx H1=>tv z H1 λy H2=>Do r z H2 λps H3=>Q ((x,y)::ps) H3
abbrev VV:List (V×V)->List (Á×Á)->Prop:=Paired λp q=>bm p.1 q.1/\bm p.2 q.2
def BW(X:Cx)(pos:Pos)(keys:List (Option â))(values:List â)(pU:List (TE×TE)):Prop:=∀pins s z H Q,ay X pins z H s->Do pU z H Q->Ç (Í X.prog X.w) X.A (evalPairs<|pairTrees keys values X.ah pos) (λvs s'=>c2 λps H'=>ay X pins z H' s'/\VV ps vs/\Q ps H') X.xe s
def Jp:BW X pos [] [] []:=λpins s z H Q I h=>pairTrees_nil_walk ⟨[],H,I,.nil,h⟩
def Dq{k v:â}{ks:List (Option â)}{vs:List â}{tk:TE}{a:List (TE×TE)}(hk:PE X k tk)(b:PE X v tv)(c:BW X pos ks vs a):BW X pos (O k::ks) (v::vs) ((tk,tv)::a):=λpins s z H Q I h=>
 pairTrees_cons_walk<|aM (hk pins s z H _ I h) λu d ⟨x,H1,e,rx,f⟩=>aM (b pins d z H1 _ e f) λo g ⟨y,H2,i,ry,j⟩=>aM (c pins g z H2 _ i j) (by rintro p q ⟨ps,l,m,cQ,n⟩;exact ⟨(x,y)::ps,l,m,.cons ⟨rx,ry⟩ cQ,n⟩)
def pV(ag more:List (aL×V)):List (aL×V):=more.foldl (λacc kv=>de acc kv.1 kv.2) ag
def KV.merge:∀{more:List (aL×V)}{a:List (aL×Á)}{ag:List (aL×V)}{vs:List (aL×Á)},KV more a->KV ag vs->KV (pV ag more) (merged vs a):=by
 intro more a ag vs r;induction r generalizing ag vs with
 |nil=>intro q;exact q
 |@cons p q ps qs h t b=>
  intro c;let e:KV (de ag p.1 p.2) (stored vs q.1 q.2):=by let:=c.g_ p.1 h.2;exact h.1▸this
  exact b e
theorem Jq:∀(more ag:List (aL×V)),(pV ag more).length<=ag.length+more.length
|[]=>λag=>by show ag.length<=ag.length+0;lia
|p::r=>λag=>by
 have h1:=Jq r<|de ag p.1 p.2;have h2:=pS ag p.1 p.2;show(pV (de ag p.1 p.2) r).length<=_;rw[aJ];lia
theorem Jr{P:ò}{w:è}:∀{ag:List (aL×V)}{e:List (Á×Á)},VV (ag.map λf=>(kV f.1,f.2)) e->∃d,Carries (eV P w) e d/\KV ag d
|[],_,r=>by rw[mP]at r;cases r;exact⟨[],Ő,.nil⟩
|p::ag,_,r=>by
 rw[bz]at r;cases r with
 |@cons a b as bs h t=>obtain⟨d,c,q⟩:=Jr (P:=P) (w:=w) t;obtain⟨b1,b2⟩:=b;exact⟨(p.1,b2)::d,⟨kq h.1,J,c⟩,.cons ⟨J,h.2⟩ q⟩
def S_(pU:List (TE×TE)):TE:=λz H Q=>∀p,H p=U->Do pU z (ab H p<|.dK []) λps H2=>H2 p=O (.dK [])/\∃ag,ps=ag.map (λkv=>(kV kv.1,kv.2))/\ag.length<=15/\Q (.ref p) (ab H2 p<|.dK<|pV [] ag)
def Js{b:List (TE×TE)}(h:BW X pos keys values b)(g:keys.all (·.isSome)=true)(i:keys.length=values.length)(j:keys≠[])(k:keys.length<=15):PE X (.Dict keys values pos) (S_ b):=λpins s z H Q I q=>by
 let l:=I.aF.fresh<|aN s.heap.objs.size;let m:=I.fH (t':=s.toks) (λ_ _ q=>b_ _ q) (aN _)<|Jo s.heap I.GA;refine wpAny_Dict_walk (knd:=eV X.prog X.w) g i j k<|aM (h pins _ z _ _ m<|q _ l) λB C q0=>?_;obtain⟨ps,H2,d,cQ,e,ag,ep,D,n⟩:=q0;subst ep;obtain⟨p,c,r⟩:=Jr cQ;obtain⟨F,hd,E,t,u⟩:=zu d.aF e;cases t;refine⟨p,c,u,λh' f v=>⟨.ref s.heap.objs.size,_,?_,J,n⟩⟩;let x:(pV [] ag).length<=sizeLine:=by let h1:=Jq ag [];rw[f9]at h1;rw[bn];lia
 let y:∃q,h'.get? s.heap.objs.size=O q:=let⟨q,_,_,A,_⟩:=f;⟨q,A⟩;exact zw d (e▸Ő) v y<|Dl x hd (r.merge .nil) f
structure M2(X:Cx)(o:â)(m:Ã)(apos:Pos)(e f:â)(cf:Pos):Prop where
 base:Ċ o m X.ah (Ï o X.ah)=Ï o X.ah
 GC:((æ cf (Ð [e,f] X.ah)).all (λx=>!x.1)&&(Ė cf (ė [] X.ah)).all (λx=>x.1.isSome)
  &&decide (([e,f]:List â).length+([]:List Ę).length+(if([]:List Ę).isEmpty then 0 else 1)<30))=true
 line:(apos.endLine==cf.line)=true
 Dr:æ cf (Ð [e,f] X.ah)=[(false,Ï e X.ah),(false,Ï f X.ah)]
def GD(H:Hp)(a:À):Prop:=(∃ag,Rd H a<|.dK ag)\/∃ag,Rd H a<|.dT ag
def Jt(I:ay X pins z H s)(d:GD H a):s.TypeIs (.ref a) "dict"/\(∀b,ç a=.ref b->∃ob,s.heap.get? b=O ob/\ob.dict=U)/\(a==Ĉ)=false:=by
 rcases d with⟨ag,e⟩|⟨ag,e⟩
 .have⟨_,hd,vs,_,c⟩:=pT I.aF e;refine⟨c.typeIs,λb q=>?_,hd⟩;cases q;have⟨ob,_,_,h1,h2,_⟩:=c;exact⟨ob,h1,h2.2.1⟩
 .have⟨_,hd,xs,_,c⟩:=rA I.aF e;refine⟨c.typeIs,λb q=>?_,hd⟩;cases q;have⟨ob,_,_,h1,h2,_⟩:=c;exact⟨ob,h1,h2.2.1⟩
section
variable {d:V} {r:Á} {o:Option V}
def Ta(j:A.units+1<Ĥ)(I:ay X pins z H s)(g:fE H a y o)(ry:bm y u)(rd:bm d r)(h:∀i s',ay X pins z H s'->bm (o.getD d) i->Q i s'):Ç (Í X.prog X.w) A (call (.builtin "dict.get") [.ref a,u,r]) Q E s:=by
 rcases g with⟨ag,k,e,f,l⟩|⟨ag,k,b,e,f,m,l⟩
 .subst f;obtain⟨F,hd,vs,cQ,c⟩:=pT I.aF e;refine F5 Bo c.typeIs Oo (Op _ _ _) (Çh (eV X.prog X.w) a (kq ry) hd r) ⟨_,c.mapOf,h _ _ (I.cN _) ?_⟩;exact l▸(cQ.val k).getD rd
 .subst f;cases(show u=ç b from ry);have⟨F,hd,xs,cQ,c⟩:=rA I.aF e;refine F5 Bo c.typeIs Oo (Op _ _ _) (meetsH_dict_get_default (δ (eV X.prog X.w)) a b hd r) ⟨Bn j,k,xs,um I.aF m,c,h _ _ (I.cN _) ?_⟩;exact l▸(cQ.val k).getD rd
end
def Tc(td ty tx:TE):TE:=λz H Q=>td z H λx H1=>∃a,x=.ref a/\GD H1 a/\ty z H1 λy H2=>tx z H2 λF H3=>∃o,fE H3 a y o/\Q (o.getD F) H3
section
variable {f:â} {ty:TE}
def Ju(c:X.A.units+1<Ĥ)(i:PE X o td)(he:PE X e ty)(j:PE X f tx)(m:M2 X o "get" apos e f cf):PE X (.Call (.Attribute o "get" apos) [e,f] [] cf) (Tc td ty tx):=λpins s z H Q I h=>by
 refine Oq m.base m.GC m.line Os Bo ae9<|aM (i pins s z H _ I h) λu k q0=>?_;obtain⟨x,H1,b,rx,a,ex,d,l⟩:=q0;subst ex;obtain rfl:u=ç a:=rx;obtain⟨n,p,_⟩:=Jt b d;refine⟨n,p,?_⟩;rw[m.Dr];refine vb J<|Bh<|sh<|aM (he pins k z H1 _ b l) λE q ⟨y,H2,r,ry,t⟩=>sh<|aM (j pins q z H2 _ r t) λfv F ⟨a1,v,w,A,G,g,B⟩=>Bg ?_;exact Ta c w g ry A λa0 K C D=>⟨_,v,C,D,B⟩
end
def Jv:ź "reversed"=O (.type "reversed"):=by decide+kernel
def ay.Td(I:ay X pins z H s)(k:∀b o,b∉ch->s.heap.get? b=O o->h'.get? b=O o)(d:∀b∈ch,kf X pins H b):ay X pins z H {s with heap:=h',toks:=t'}:=by
 have g:∀b u,H b=O u->b∉ch:=λb u e F=>by have q:=(d b F).1;rw[q]at e;cases e
 refine I.step (λb f=>⟨(d b f).2.2.2.1,(d b f).2.1,(d b f).2.2.2.2.1,(d b f).2.2.2.2.2⟩) (λb o _ _ a e _=>k b o a e) (λb o _ _ a e _=>⟨o.slots,k b o a e⟩)
  (λ_ _ _ _ n=>n) (λb o a e=>⟨o,k b o a e⟩) (λ_ _ e=>e) (λ_ _ _ e=>e) (λb ps e=>⟨#[],by rw[e];simp⟩) (λm h=>?_) (λb u e=>?_) I.fI
 .have⟨o,es,ep,i,r⟩:=h;exact⟨o,es,ep,k _ o (λF=>(d _ F).2.1 J) i,r⟩
 .refine(I.aF b u e).aT (λc v a q=>k c v ?_ q) (λ_ q=>q) λ_ _ q=>q;rcases a with F|F
  .exact F▸g b u e
  .exact g c _ F
def ay.Jw{T:À}{ob:HO}(I:ay X pins z H s)(k:∀b o,b∉ch->s.heap.get? b=O o->h'.get? b=O o)(f:∀b∈ch,kf X pins H b)(h:s.heap.objs.size<=T)(new:dM X.prog X.w (ab H T ob) h' T ob):ay X pins z (ab H T ob) {s with heap:=h',toks:=t'}:=by
 have g:H T=none:=I.aF.fresh h;have i:∀b u,H b=O u->b∉ch:=λb u e F=>by have q:=(f b F).1;rw[q]at e;cases e
 refine I.step (λb a=>⟨(f b a).2.2.2.1,(f b a).2.1,(f b a).2.2.2.2.1,(f b a).2.2.2.2.2⟩) (λb o _ _ d e _=>k b o d e) (λb o _ _ d e _=>⟨o.slots,k b o d e⟩)
  (λb o _ e n=>?_) (λb o d e=>⟨o,k b o d e⟩) (λb xs e=>?_) (λb o u e=>?_) (λb ps e=>⟨#[],?_⟩) (λm j=>?_) (λb u e=>?_) I.fI
 .exact au (gm (ia (cG e) h))▸n
 .exact au (bv e g)▸e
 .exact au (bv e g)▸e
 .rw[au (bv e g),e];simp
 .obtain⟨o,es,ep,l,r⟩:=j;exact⟨o,es,ep,k _ o (λF=>(f _ F).2.1 J) l,r⟩
 .by_cases a:b=T
  .subst a;rw[aq]at e;cases e;exact new
  .rw[au a]at e;refine(I.aF b u e).aT (λc v d q=>k c v ?_ q) (λc q=>au (bv q g)▸q) λc xs q=>au (bv q g)▸q;refine Or.elim (d) (λF=>?_) λF=>?_
   .exact F▸i b u e
   .exact i c _ F
def ay.Te{u:HO}(I:ay X pins z H s)(h:H d=O u)(a:qA (O u)):∃od,ay X pins z (ab H d (.cn od u)) s:=by
 have x:=I.aF d u h;have ex:∃od,s.heap.get? d=O od:=by
  cases u with
  |ae xs=>obtain⟨_,_,_,_,e⟩:=x;exact⟨_,e⟩
  |dK ag|dT ag=>obtain⟨_,_,_,_,o,_,_,e,_⟩:=x;exact⟨o,e⟩
  |set S n=>obtain⟨o,_,_,_,e,_⟩:=x;exact⟨o,e⟩
  |aO C dx fs=>obtain⟨_,_,_,e,_⟩:=x;exact⟨_,e⟩
  |ext φ=>obtain⟨_,⟨_,e⟩,_⟩:=x;exact⟨_,e⟩
  |_=>exact ņ a
 obtain⟨od,e⟩:=ex;have new:dM X.prog X.w (ab H d<|.cn od u) s.heap d (.cn od u):=by
  refine⟨e,x.aT (λb v _ q=>q) (λb q=>?_) λb xs q=>?_⟩
  .rw[au λF=>by rw[F,h]at q;cases q;exact a];exact q
  .rw[au λF=>by rw[F,h]at q;cases q;exact a];exact q
 exact⟨od,I.mo (h▸a) (.inl J) (λb v _ q=>q) ⟨od,e⟩ new⟩
def ay.Tf{u:HO}(I:ay X pins z H s)(h:H d=O u)(b:qA (O u)):∀o' a,X.sP d≠O (.cn o' a):=λo' a e=>by
 let q:=I.base.lg d o' a e;rw[h]at q;cases q;exact b
def ay.Tg{u:HO}(I:ay X pins z H s)(h:H d=O (.cn od u))(k:∀o' g,X.sP d≠O (.cn o' g)):ay X pins z (ab H d u) s:=by
 let f:∀b o,H b=O o->(∀o' g,o≠.cn o' g)->b≠d:=λb o e cu F=>by
  rw[F,h]at e;cases e;exact cu _ _ J
 let a:∀b,H b=U->b≠d:=λb e F=>by rw[F,h]at e;cases e
 refine⟨I.ok,I.os,I.fI,⟨I.base.keep,I.base.slot,λb o e n j=>?_,I.base.there,λb xs e=>?_,λb o x e=>?_,λb ps e=>?_⟩,I.iD,I.cell,?_,λx c e=>?_,λp l=>?_,λb o e=>?_,I.len⟩
 .rw[au<|a b<|I.base.free b o e n j];exact I.base.free b o e n j
 .let q:=I.base.nY b xs e;rw[au<|f b _ q λ_ _ F=>nomatch F];exact q
 .let q:=I.base.lg b o x e;rw[au λF=>by rw[F]at e;exact k _ _ e];exact q
 .obtain⟨m,q⟩:=I.base.nZ b ps e;exact⟨m,by rw[au<|f b _ q λ_ _ F=>nomatch F];exact q⟩
 .rw[au<|a _ I.free];exact I.free
 .rw[au<|a c<|I.jH x c e];exact I.jH x c e
 .obtain⟨e,n,r⟩:=I.j4 p l;exact⟨e,by rw[au<|a _ n];exact n,r⟩
 .by_cases i:b=d
  .rw[i,aq]at e;cases e;rw[i];obtain⟨_,x⟩:=I.aF d _ h;exact x.aT (λc v _ q=>q) (λc q=>by rw[au<|f c _ q λ_ _ F=>nomatch F];exact q) λc xs q=>by rw[au<|f c _ q λ_ _ F=>nomatch F];exact q
  .rw[au i]at e;exact(I.aF b o e).aT (λc v _ q=>q) (λc q=>by rw[au<|f c _ q λ_ _ F=>nomatch F];exact q) λc xs q=>by rw[au<|f c _ q λ_ _ F=>nomatch F];exact q
inductive Th(t:TE)(z:St)(H:Hp)(Q:VK):Prop|m(d u:_)(_:H d=O u)(_:qA (O u))(_:∀od,t z (ab H d<|.cn od u) λv H'=>H' d=O (.cn od u)/\Q v (ab H' d u))
def Jx(h:PE X e t):PE X e (Th t):=λpins s z H Q I a=>by obtain⟨d,u,hd,b,a⟩:=a;obtain⟨od,c⟩:=I.Te hd b;exact aM (h pins s z _ _ c<|a od) λv g ⟨x,H1,f,r,e2,q⟩=>⟨x,_,f.Tg e2<|I.Tf hd b,r,q⟩
def rB{R:It->Hp->Prop}{F}{a:Nat->á->Prop}{tk:Nat}(I:ay X pins z H s)(o:Ó)(T:jI X.prog X.w X.K tg F [s.heap.objs.size] s.heap.objs.size a) (st:a 0 (s.heap.push o)) (q:R F H):Gq X pins z tg R (.ref s.heap.objs.size) {s with heap:=s.heap.push o,toks:=tk}:=by
 refine⟨s.heap.objs.size,[s.heap.objs.size],a,F,H,J,I.cy λb ob e=>b_ _ e,T,st,λb c=>?_,q⟩;have e:b=s.heap.objs.size:=by simpa using c
 subst e;exact I.qY (aN _)<|I.aF.fresh<|aN _
def xZ(lo c:Int)(n:Nat):It:=⟨λi _=>i<n,λi H x H'=>H'=H/\x=.int (lo+(i:Nat)*c),λi _=>n<=i⟩
def Ti(it:À)(lo c:Int)(n:Nat):jI P w K tg (xZ lo c n) [it] it (λi h=>ϥ h it (lo+(i:Nat)*c) ((n:Int)-(i:Nat)) c) where
 mem:=by simp
 obj:=λi h st b a=>by
  have e:b=it:=by simpa using a
  subst e;exact⟨_,st,λv F=>nomatch F⟩
 keep:=λi h h' st k=>k it Gc _ st
 item:=by
  intro X d f g j i pins s z H E I hf st l;subst d f g;have⟨m,p,y,q,r,u⟩:=hf it Gc;have W:=Åj (prog:=X.prog) (w:=X.w) (I.ok.hd j) it lo c n;refine W.item i s _ _ l st λv h' tk B x kk=>?_;obtain⟨t,rfl⟩:=B;have C:ay X pins z H {s with heap:=h',toks:=tk}:=I.fJ (λb o a e=>kk b o (by simpa using a) e) m p q r u;exact⟨_,J,n_ x J J gn ⟨.int (lo+(i:Nat)*c),H,C,⟨t,J⟩,⟨J,J⟩,x,λb a=>(hf b a).1⟩⟩
 done:=by intro X d f g j i pins s z H E I hf st l;subst d f g;have⟨m,p,y,q,r,u⟩:=hf it Gc;exact Æa (I.ok.hd j) st (by have:n<=i:=l;omega) λh' D=>⟨J,I.fJ (λb o a e=>D b o a e) m p q r u⟩
 self:=λA i s Q E st h=>Æb st h
def BY(i j c:Int)(n:Nat):Prop:=c≠0/\c.natAbs<1073741824/\Ñb i j c=true/\Ág i j c=n
def BY.neg{i j:Int}(b: -(2^62)<=i)(a:i<2^62)(c: -(2^62)<=j)(d:j<2^62):BY i j (-1) (i-j).toNat:=⟨gn,gn,PySem.W.small_down b a c d,PySem.W.rangeSize_downNat i j⟩
inductive Tj'(R:It->Hp->Prop)(vs:List V)(H1:Hp):Prop|m(i j c n:_)(_:vs=[.int i,.int j,.int c])(_:BY i j c n)(_:R (xZ i c n) H1)
def Tj(ta:TA):TI:=λz H R=>ta z H<|Tj' R
def Tl{a b:â}{ta}(m:Gl X "range")(u:X.mg "range"=U)(v:PA X [a,b,c] ta)(w:Ð [a,b,c] X.ah=(false,Ï a X.ah)::Ð [b,c] X.ah:=by rfl) (dJ:(æ pos (Ð [b,c] X.ah)).any (·.1)=false:=by rfl):PI X tg (.Call (.Name "range" p) [a,b,c] [] pos) (Tj ta):=by
 intro pins s z H R I h;refine η<|n8 I m u boot_range<|u9 (aM (v pos pins s z H _ I h) λus f ⟨vs,H1,x,y,a0⟩=>?_) w dJ;obtain⟨i,j,k,n,e,⟨A,B,C,D⟩,q⟩:=a0;subst e;cases y with
 |cons r d=>
  cases d with
  |cons E d=>
   cases d with
   |cons g d=>
    cases d;obtain⟨t,rfl⟩:=r;obtain⟨t',rfl⟩:=E;obtain⟨l,rfl⟩:=g;refine call_range_3 A ?_<|.inl<|PyProof.noPylong_small B;refine Æc (Æd ..) C ?_;let F:ay X pins z H1 {f with heap:=f.heap.push {cls:=.type "range",data:=.fields #[.int i t,.int j t',.int k l]}}:=x.cy λb o e=>b_ _ e;refine rB F _ (Ti _ i k n) ?_ q;let G:i+(0:Int)*k=i:=Gc;let e2:(n:Int)-((0:Nat))=Ág i j k:=by rw[D];simp
    show ϥ _ _ (i+(0:Int)*k) (n-((0:Nat))) k;rw[G,e2];exact c7 _ J
def To{lo c:Int}{tb:TS}{D:iS}(a:Nat->St->Hp->Prop)(j:a 0 z H)(k:∀i z H,i<n->a i z H->g (.int (lo+(i:Nat)*c)) z H λb H2=>tb {D with nx:=a (i+1),ct:=a (i+1),bk:=D.nx} b H2) (hd:∀z H,a n z H->D.nx z H):∃W:Nat->Nat->St->Hp->Prop,(∃m,W 0 m z H)/\∀i m z H,W i m z H->((xZ lo c n).stop i H/\D.nx z H)\/((xZ lo c n).go i H/\∃N,(∀d H',N d H'->∃h,h<m/\W (i+1) h d H')/\∀x H',(xZ lo c n).fU i H x H'->g x z H' λb H2=>tb {D with nx:=N,ct:=N,bk:=D.nx} b H2):=by
 refine⟨λi m z H=>m=n-i/\i<=n/\a i z H,⟨n,Gc,cM _,j⟩,?_⟩;rintro i m z H ⟨rfl,hi,p⟩;by_cases f:i<n
 .refine .inr ⟨f,a (i+1),λd H' l=>⟨n-(i+1),Z,J,f,l⟩,λx H' y=>?_⟩;obtain⟨e,y⟩:=y;subst e y;exact k i z _ f p
 .have e:i=n:=Z;subst e;exact .inl ⟨aN _,hd z H p⟩
def x6(K:Ñ)(a:À)(n:Nat):It:=⟨λi H=>i<n/\c2 λxs x=>ao K H a xs/\xs[n-1-i]?=O x,λi H x H'=>H'=H/\∀xs,ao K H a xs->xs[n-1-i]?=O x,λi _=>n<=i⟩
def Tp(a it:À)(n:Nat):jI P w K tg (x6 K a n) [it] it (λi h=>i<=n/\h.IsRevIter it a ((n:Int)-1-(i:Nat))) where
 mem:=by simp
 obj:=λi h st b g=>by
  have e:b=it:=by simpa using g
  subst e;have⟨_,o,e,c,d⟩:=st;exact⟨o,e,λv a4=>by rw[d]at a4;cases a4⟩
 keep:=λi h h' st k=>⟨st.1,st.2.at λo e=>k it Gc o e⟩
 item:=by
  intro X j l m G i pins s z H E I hf st q;subst j l m;refine gg λP0 p0=>?_;have⟨a2,xs,x,L,M⟩:=q;have⟨aD,N,p,Y⟩:=I.list L;obtain⟨u,a0,R⟩:=N.get M;have⟨r,t,S,y,B,C⟩:=hf it Gc;have⟨_,f⟩:=st;refine p0 ?_;have D:(n:Int)-1-((i:Nat))=((n-1-i:Nat):Int):=Z;rw[D]at f;refine wpAny_pyNext_rev_item f p.isList (by simpa using a0) λh' F T=>?_;have e2:((n-1-i:Nat):Int)-1=(n:Int)-1-((i+1:Nat)):=Z;rw[e2]at F;have a1:ay X pins z H {s with heap:=h'}:=I.fJ (λb o g e=>(T.2 b g).trans e) r t y B C;have⟨o,e,c,d⟩:=id F;exact⟨u,J,n_ e c d gn ⟨x,H,a1,R,⟨J,λys V=>I.yY V L▸M⟩,⟨a2,F⟩,λb g=>(hf b g).1⟩⟩
 done:=by
  intro X j l m G i pins s z H E I hf st q;subst j l m;refine gg λP0 p0=>?_;have⟨r,t,S,y,B,C⟩:=hf it Gc;have⟨a2,f⟩:=st;refine p0 ?_;have a3:n<=i:=q;have D:(n:Int)-1-((i:Nat))= -1:=Z;rw[D]at f;exact wpAny_pyNext_rev_end (I.ok.hd G) f λh' W=>⟨J,I.fJ (λb o g e=>W b o g e) r t y B C⟩
 self:=λA i s Q E st h=>Çi st.2 h
inductive Jy'(K:Ñ)(R:It->Hp->Prop)(vs:List V)(H1:Hp):Prop|m(a xs:_)(_:vs=[.ref a])(_:ao K H1 a xs)(_:R (x6 K a xs.length) H1)
def Jy(K:Ñ)(ta:TA):TI:=λz H R=>ta z H<|Jy' K R
def Tq{ta}(c:Gl X "reversed")(d:X.mg "reversed"=U)(f:PA X [e] ta)(g:Ð [e] X.ah=[(false,Ï e X.ah)]:=by rfl):PI X tg (.Call (.Name "reversed" p) [e] [] pos) (Jy X.K ta):=λpins s z H R I h=>by
 refine η<|n8 I c d Jv<|u9 (aM (f pos pins s z H _ I h) λus j ⟨vs,H1,b,k,m⟩=>?_) g J;obtain⟨a,xs,e,n,q⟩:=m;subst e;cases k with
 |cons r o=>
  cases o;cases r;obtain⟨aD,t,u,w⟩:=b.list n;have x:=t.length;have v:(aD.toArray.size:Int)-1=(xs.length:Int)-1-((0:Nat)):=by simp only[cx];lia
  refine call_reversed_list u.isList<|Çi ⟨_,c7 _ J,J,J⟩ ?_;refine rB b _ (Tp a _ xs.length) ⟨cM _,?_⟩ q;exact v▸⟨_,c7 _ J,J,J⟩
def nc(x:Ã):It:=⟨λi _=>i<x.cps.size,λi H v H'=>H'=H/\∃c,x.cps[i]?=O c/\v=.str ⟨#[c]⟩,λi _=>x.cps.size<=i⟩
def Jz(it:À)(x:Ã)(t)(ty)(g:ty="str_ascii_iterator"\/ty="str_iterator"):
  jI P w K tg (nc x) [it] it (λi h=>h.IsStrIter it ty x t i) where
 mem:=by simp
 obj:=λi h st b a=>by
  have e:b=it:=by simpa using a
  subst e;have⟨o,e,c,d⟩:=st;exact⟨o,e,λv a3=>by rw[d]at a3;cases a3⟩
 keep:=λi h h' st k=>let⟨o,L,r⟩:=st;⟨o,k it Gc o L,r⟩
 item:=by
  intro X q y B f i pins s z H E I hf st C;subst q y B;have⟨j,l,M,m,n,p⟩:=hf it Gc;have W:Walks X.prog X.w X.A it [it] [it] x.cps.size (SignAt x) (λi h=>h.IsStrIter it ty x t i):=by
   rcases g with e|e
   .exact e▸Walks.strAscii (I.ok.hd f) it x t
   .exact e▸Walks.strWide (I.ok.hd f) it x t
  have N:["enumerate","zip","dict_itemiterator","dict_reverseitemiterator","odict_iterator","itertools.zip_longest","itertools.pairwise"].contains ty=false:=by
   rcases g with e|e
   .rw[e];decide
   .rw[e];decide
  refine W.item i s _ _ C st λv h' tk a0 G kk=>?_;obtain⟨c,u,D,rfl⟩:=a0;have R:ay X pins z H {s with heap:=h',toks:=tk}:=I.fJ (λb o a e=>kk b o (by simpa using a) e) j l m n p;obtain⟨a1,e,S,T⟩:=id G;exact⟨_,J,n_ e S T N ⟨.str ⟨#[c]⟩,H,R,⟨u,J⟩,⟨J,c,D,J⟩,G,λb a=>(hf b a).1⟩⟩
 done:=by
  intro X q y B f i pins s z H E I hf st C;subst q y B;have⟨j,l,M,m,n,p⟩:=hf it Gc;have a2:x.cps[i]?=none:=F6 C;rcases g with e|e
  .rw[e]at st;exact wpAny_pyNext_ascii_end (I.ok.hd f) st a2 λh' F=>⟨J,I.fJ (λb o a e=>F b o a e) j l m n p⟩
  .rw[e]at st;exact wpAny_pyNext_wide_end (I.ok.hd f) st a2 λh' F=>⟨J,I.fJ (λb o a e=>F b o a e) j l m n p⟩
 self:=λA i s Q E st h=>by
  rcases g with e|e
  .rw[e]at st;exact wpAny_pyIter_striter_ascii st h
  .rw[e]at st;exact wpAny_pyIter_striter_wide st h
inductive JA'(R:It->Hp->Prop)(v:V)(H1:Hp):Prop|m(x:_)(_:v=.str x)(_:R (nc x) H1)
def JA(te:TE):TI:=λz H R=>te z H<|JA' R
def zy(he:PE X e te):PI X tg e (JA te):=λpins s z H R I h=>aM (he pins s z H _ I h) λv a ⟨y,H1,b,d,x,ex,q⟩=>by
 subst ex;obtain⟨t,rfl⟩:=d;cases c:x.cps.all (· < 128)
 .exact wpAny_pyIter_wide c<|rB b _ (Jz _ x t "str_iterator"<|.inr J) ⟨_,c7 _ J,J,J⟩ q
 .exact Çj c<|rB b _ (Jz _ x t "str_ascii_iterator"<|.inl J) ⟨_,c7 _ J,J,J⟩ q
def JB{o:Ó}{es}(hd:(d==Ĉ)=false)(a:s.heap.get? d=O o)(e:o.ExactDict)(c:o.data=.dict es ep)(f:Q (.ref s.heap.objs.size) {s with heap:=s.heap.push {cls:=.type "dict_keyiterator",data:=.fields #[.ref d,.int 0 0,.int es.size 0,.int ep 0]}}):Ç (Í prog w) A (š (.ref d)) Q E s:=by
 let b:s.TypeIs (.ref d) "dict":=⟨o,a,e.1⟩
 refine Ot b Èa<|mO Èa b F.entry_dict_iter ?_<|F.args_dict_iter_1 _;refine aA ?_;refine aA<|wpAny_notOrdered_dict b ?_;refine bc ?_;show Ç _ _ (Èb d >>=_) _ _ s;unfold Èb;rw[ai (hd▸eg)];refine aA<|bc ?_;refine aA<|Ou a c ?_;refine aA<|Ov a c ?_;refine aA<|lZ<|bc ⟨_,J,"dict_keyiterator",_,⟨_,c7 _ J,J⟩,xD.lookup,?_⟩
 simpa[Č]using f
def Tr{es}{c}{Q:Option Á->Ì->Prop}(a:s.heap.IsKeyIter it d i n ep)(e:s.heap.get? d=O od)(f:od.data=.dict es ep)(hsz:es.size=n) (h:es[i]?=O c) (j:∀h',h'.IsKeyIter it d (i+1) n ep->Ĩ it s.heap h'->Q (O c.key) {s with heap:=h'}):Ç (Í prog w) A (ĉ (.ref it)) Q E s:=by
 obtain⟨o,b,k,hd⟩:=id a;refine aA<|ve<|va a.typeIs xD
 <|mO xD a.typeIs afa ?_<|afb _
 refine aA<|bc ?_;refine aA<|aA ?_;first|refine aA (F7 a.typeIs<|bc ?_)|refine aA<|wpAny_typeNameOf_keyiter a.typeIs<|bc ?_
 refine aA<|wpAny_fieldsOf b hd ?_;show Ç _ _ (if(ç d==į)=true then _ else _) _ _ s;rw[ai<|show ¬((ç d==į)=true)from eg];refine aA<|bc ?_;refine aA<|Ou e f ?_;rw[ai (by rw[hsz];simp)];refine aA<|bc ?_;refine aA<|Ov e f ?_;rw[ai Gc];refine bc ?_;obtain⟨m,p⟩:=afc.mp h;simp only[show ¬(i<0)from by lia,i',sj,Ow m];refine aA ?_;first|refine aA (F7 a.typeIs<|bc ?_)|refine aA<|wpAny_typeNameOf_keyiter a.typeIs<|bc ?_
 refine aA<|Èd a.typeIs ?_;show Ç _ _ (setField (.ref it) 1 (Č (i+1))>>=_) _ _ s;refine aA<|Bp b hd Gc ?_;let g:(s.heap.update it (Èe (·.setIfInBounds 1<|Č (i+1)))).IsKeyIter it d (i+1) n ep:=
  ⟨_,xC _ b<|Ox<|xE hd _,(Èf ..).trans k,by rw[xE hd];simp[Č]⟩
 refine aA<|oI ?_;refine aA<|Èd g.typeIs ?_;show Ç _ _ (pure es[i].key) _ _ _;rw[p];exact bc<|bc ⟨_,J,bc<|j _ g<|Oy ..⟩
def JD{es}{Q:Option Á->Ì->Prop}(h:A.handled=U)(c:s.heap.IsKeyIter it d i n ep)(e:s.heap.get? d=O od)(f:od.data=.dict es ep)(hsz:es.size=n) (j:n<=i) (k:∀h',Âi it s.heap h'->Q U {s with heap:=h'}):Ç (Í prog w) A (ĉ (.ref it)) Q E s:=by
 obtain⟨o,g,q,hd⟩:=id c;refine aA<|ve<|va c.typeIs xD
 <|mO xD c.typeIs afa ?_<|afb _
 refine aA<|bc ?_;refine aA<|aA ?_;first|refine aA (F7 c.typeIs<|bc ?_)|refine aA<|wpAny_typeNameOf_keyiter c.typeIs<|bc ?_
 refine aA<|wpAny_fieldsOf g hd ?_;show Ç _ _ (if(ç d==į)=true then _ else _) _ _ s;rw[ai<|show ¬((ç d==į)=true)from eg];refine aA<|bc ?_;refine aA<|Ou e f ?_;rw[ai (by rw[hsz];simp)];refine aA<|bc ?_;refine aA<|Ov e f ?_;rw[ai Gc];refine bc ?_;let p:es.size<=i:=hsz▸j;simp only[show ¬(i<0)from by omega,i',sj,F6 p];refine aA ?_;first|refine aA (F7 c.typeIs<|bc ?_)|refine aA<|wpAny_typeNameOf_keyiter c.typeIs<|bc ?_
 show Ç _ _ (setField (.ref it) 0 .none >>=_) _ _ s;refine aA<|Bp g hd Gc ?_;refine aA ?_;simp only[newExc,newTuple];refine aA<|lZ ?_ (by size_fits);refine aA<|xF (by first|rfl |(simp only[ϭ];rfl)) ?_;refine lZ ?_ (by size_fits);simp only[raiseNew];refine aA<|wpAny_handled ?_;rw[show A.in1.handled=U from h];refine aA<|bc<|wpAny_throw ?_;refine aA<|Oz ⟨_,c7 _ J,J⟩ OA ?_;exact bc<|k _<|((Oy ..).extBut.push _).push _
def Tu{ag:List (κ×V)}(h:KV ag vs):∀{i:Nat}{k:κ}{v:V},ag[i]?=O (k,v)->∃u,vs[i]?=O (k,u)/\bm v u:=by
 induction h with
 |nil=>intro i k v e;simp at e
 |@cons a b d f r t c=>
  intro i k v e;cases i with
  |zero=>simp only[List.getElem?_cons_zero,l6]at e;subst e;refine⟨b.2,?_,r.2⟩;simp only[List.getElem?_cons_zero];exact cw O<|Prod.ext r.1.symm J
  |succ j=>simp only[List.getElem?_cons_succ]at e⊢;exact c e
def Tv{β}{G:α->β->Prop}{c:List α}{d:List β}(h:Paired G c d):∀{i:Nat}{a:α},c[i]?=O a->∃b,d[i]?=O b/\G a b:=by
 induction h with
 |nil=>intro i a e;simp at e
 |@cons a b c d r t f=>
  intro i g e;cases i with
  |zero=>simp only[List.getElem?_cons_zero,l6]at e;subst e;exact⟨b,J,r⟩
  |succ j=>simp only[List.getElem?_cons_succ]at e⊢;exact f e
def JE(h:nV k u=true):bm (kV k) u:=by
 rcases mj h with⟨i,t,rfl,rfl⟩|⟨x,t,rfl,rfl⟩
 .exact⟨t,J⟩
 .exact⟨t,J⟩
section
variable {o:Ó}
def ay.Dt(I:ay X pins z H s)(h:H d=O (.cn o (.dK ag))):(d==Ĉ)=false/\s.heap.get? d=O o/\o.ExactDict/\c3 λes ep vs=>o.data=.dict es ep/\es.size=ag.length/\KV ag vs/\s.heap.DictAt (eV X.prog X.w) d vs ep:=by
 refine gg λP0 p0=>?_;obtain⟨hd,F,f,vs,a,o',es,ep,b,c,e,r⟩:=I.aF d _ h;refine p0 ?_;rw[hd]at b;cases b;refine⟨f,hd,c,es,ep,vs,e,?_,a,o,es,hd,c,e,r⟩;have g:=r.2.1.length;have l2:ag.length=vs.length:=rZ a;rw[qw]at g;lia
def ay.Du{ag:List (List aL×V)}(I:ay X pins z H s)(h:H d=O (.cn o (.dT ag))):(d==Ĉ)=false/\s.heap.get? d=O o/\o.ExactDict/\c2 λes ep=>o.data=.dict es ep/\es.size=ag.length/\∀(i:Nat)(k:List aL)(v:V),ag[i]?=O (k,v)->c2 λa q=>es[i]?=O a/\a.key=.ref q/\H q=O (.be (k.map kV)):=by
 refine gg λP0 p0=>?_;obtain⟨hd,F,g,xs,pr,o',es,ep,c,j,l,f,_⟩:=I.aF d _ h;refine p0 ?_;rw[hd]at c;cases c;refine⟨g,hd,j,es,ep,l,?_,λi k v e=>?_⟩
 .have n:es.size=xs.length:=size_of_entries f;have l2:ag.length=xs.length:=rZ pr;lia
 .obtain⟨b,m,p,e2,_⟩:=Tv pr e;have q:=entry_at f i;rw[m]at q;exact⟨_,b.2.1,q,J,e2⟩
end
def x9(d:À)(o:Ó)(ag:List (aL×V)):It:=⟨λi H=>H d=O (.cn o<|.dK ag)/\i<ag.length,λi H x H'=>H'=H/\c2 λk v=>ag[i]?=O (k,v)/\x=kV k,λi H=>H d=O (.cn o<|.dK ag)/\ag.length<=i⟩
def JF(d:À)(o:Ó)(ag:List (List aL×V)):It:=⟨λi H=>H d=O (.cn o<|.dT ag)/\i<ag.length,λi H x H'=>H'=H/\c3 λk v q=>ag[i]?=O (k,v)/\x=.ref q/\H q=O (.be<|k.map kV),λi H=>H d=O (.cn o<|.dT ag)/\ag.length<=i⟩
def zB{o:Ó}{es a}{b:Nat}(h:o.data=.dict es ep)(h':o.data=.dict a b):a=es/\b=ep:=by
 rw[h]at h';cases h';exact⟨J,J⟩
section
variable {o:Ó} {es:Array ĳ}
def Tw(it:À)(F:o.data=.dict es ep):jI P w K tg (x9 d o ag) [it] it (λi h=>h.IsKeyIter it d i ag.length ep) where
 mem:=by simp
 obj:=λi h st b a=>by
  have e:b=it:=by simpa using a
  subst e;obtain⟨g,e,c,l⟩:=st;exact⟨g,e,λv a4=>by rw[l]at a4;cases a4⟩
 keep:=λi h h' st k=>st.at λg e=>k it Gc g e
 item:=by
  intro X m n q G i pins s z H E I hf st r;subst m n q;refine gg λP0 p0=>?_;obtain⟨hd,hi⟩:=r;obtain⟨t,x,R,y,B,C⟩:=hf it Gc;obtain⟨S,a2,T,a1,V,vs,j,hsz,D,L⟩:=I.Dt hd;obtain⟨rfl,rfl⟩:=zB F j;obtain⟨⟨k,v⟩,M⟩:∃p,ag[i]?=O p:=⟨ag[i],bL hi⟩;obtain⟨u,W,ru⟩:=Tu D M;refine p0 ?_;have N:ag.length=vs.length:=rZ D;rw[N]at st;refine wpAny_pyNext_dict_item st L W λf h' Y a0 a3=>?_;have I1:ay X pins z H {s with heap:=h'}:=I.fJ (λb ob a e=>(a3.2 b a).trans e) t x y B C;obtain⟨g,e,c,l⟩:=id a0;refine⟨f,J,n_ e c l gn ⟨kV k,H,I1,JE<|show nV k f=true from Y,⟨J,k,v,M,J⟩,?_,λb a=>(hf b a).1⟩⟩;show h'.IsKeyIter it d (i+1) ag.length _;exact N▸a0
 done:=by intro X m n q G i pins s z H E I hf st r;subst m n q;obtain⟨hd,hi⟩:=r;obtain⟨t,x,R,y,B,C⟩:=hf it Gc;obtain⟨S,a2,T,a1,V,vs,j,hsz,D,L⟩:=I.Dt hd;obtain⟨rfl,rfl⟩:=zB F j;exact JD (I.ok.hd G) st a2 j hsz hi λh' eb=>⟨J,I.fJ (λb ob a e=>eb b ob a e) t x y B C⟩
 self:=λA i s Q E st h=>wpAny_pyIter_keyiter st h
def Tz{ag:List (List aL×V)}(it:À)(D:o.data=.dict es ep):jI P w K tg (JF d o ag) [it] it (λi h=>h.IsKeyIter it d i ag.length ep) where
 mem:=by simp
 obj:=λi h st b a=>by
  have e:b=it:=by simpa using a
  subst e;obtain⟨g,e,c,j⟩:=st;exact⟨g,e,λv a4=>by rw[j]at a4;cases a4⟩
 keep:=λi h h' st k=>st.at λg e=>k it Gc g e
 item:=by
  intro X l m n G i pins s z H E I hf st r;subst l m n;refine gg λP0 p0=>?_;obtain⟨hd,hi⟩:=r;obtain⟨t,u,M,x,y,B⟩:=hf it Gc;obtain⟨N,C,a0,R,S,f,hsz,tu⟩:=I.Du hd;obtain⟨rfl,rfl⟩:=zB D f;obtain⟨⟨k,v⟩,a2⟩:∃p,ag[i]?=O p:=⟨ag[i],bL hi⟩;obtain⟨T,q,a1,W,Y⟩:=tu i k v a2;refine p0 ?_;refine Tr st C f hsz a1 λh' L a3=>?_;have I1:ay X pins z H {s with heap:=h'}:=I.fJ (λb ob a e=>(a3.2 b a).trans e) t u x y B;obtain⟨g,e,c,j⟩:=id L;exact⟨T.key,J,n_ e c j gn ⟨.ref q,H,I1,W,⟨J,k,v,q,a2,J,Y⟩,L,λb a=>(hf b a).1⟩⟩
 done:=by intro X l m n G i pins s z H E I hf st r;subst l m n;obtain⟨hd,hi⟩:=r;obtain⟨t,u,M,x,y,B⟩:=hf it Gc;obtain⟨N,C,a0,R,S,f,hsz,tu⟩:=I.Du hd;obtain⟨rfl,rfl⟩:=zB D f;exact JD (I.ok.hd G) st C f hsz hi λh' eb=>⟨J,I.fJ (λb ob a e=>eb b ob a e) t u x y B⟩
 self:=λA i s Q E st h=>by
  refine Ot st.typeIs afd<|mO afd st.typeIs F.entry_dict_keyiterator_iter ?_<|F.args_dict_keyiterator_iter_1 _;show Ç _ _ (ret<|.ref it) _ _ s;exact bc ⟨_,J,"dict_keyiterator",_,st.typeIs,xD.lookup,h⟩
end
def TB(td:TE):TI:=λz H R=>td z H λx H1=>c2 λd o=>x=.ref d/\((∃ag,H1 d=O (.cn o<|.dK ag)/\R (x9 d o ag) H1)\/∃ag,H1 d=O (.cn o<|.dT ag)/\R (JF d o ag) H1)
def TC(he:PE X e td):PI X tg e (TB td):=λpins s z H R I h=>aM (he pins s z H _ I h) λu i ⟨x,H1,b,rx,d,o,ex,q⟩=>by
 subst ex;obtain rfl:u=ç d:=rx;rcases q with⟨ag,hd,q⟩|⟨ag,hd,q⟩
 .obtain⟨c,f,g,es,ep,vs,a,hsz,j,k⟩:=b.Dt hd;refine JB c f g a<|rB b _ (Tw _ a) ⟨_,c7 _ J,J,?_⟩ q;rw[hsz]<;>rfl
 .obtain⟨c,f,g,es,ep,a,hsz,tu⟩:=b.Du hd;refine JB c f g a<|rB b _ (Tz _ a) ⟨_,c7 _ J,J,?_⟩ q;rw[hsz]<;>rfl
def qG(K:Ñ)(a:À):It:=⟨λi H=>c2 λxs x=>ao K H a xs/\xs[i]?=O x,λi H v H'=>c2 λT x=>v=.ref T/\H T=U/\H'=ab H T (.be [.int i,x])/\∀xs,ao K H a xs->xs[i]?=O x,λi H=>∃xs,ao K H a xs/\xs.length<=i⟩
def TF(a e it:À):
  jI P w K (.Tuple elts kk ub) (qG K a) [e,it] e (λi h=>(∃c,IsEnum h e it ((i:Nat):Int) c)/\h.IsListIter it a i/\e≠it) where
 mem:=by simp
 obj:=λi h st b d=>by
  have⟨⟨c,f⟩,⟨o,l,m,hd⟩,_⟩:=st;have n:b=e\/b=it:=by simpa using d
  rcases n with a4|a4
  .exact a4▸⟨_,f,λv q=>nomatch q⟩
  .exact a4▸⟨o,l,λv q=>by rw[hd]at q;cases q⟩
 keep:=λi h h' st k=>let⟨⟨c,f⟩,hi,cu⟩:=st;⟨⟨c,k e Gc _ f⟩,hi.at λo q=>k it Gc o q,cu⟩
 item:=by
  intro X r t y m i pins s z H E I hf st B;subst r t y;refine gg λP0 p0=>?_;have⟨⟨c,f⟩,g,cu⟩:=st;have⟨xs,x,j,C⟩:=B;have⟨aD,D,p,M⟩:=I.list j;have⟨u,N,a0⟩:=D.get C;refine p0 ?_;let L:e<s.heap.objs.size:=cG f;let F:it<s.heap.objs.size:=by have⟨_,q,_⟩:=g;exact cG q
  refine wpAny_pyNext_enum_item f g p.isList (by simpa using N) cu λh' l R S hsz hk=>⟨_,J,wpAny_letOwnedTupleGo_enum l λG T a2=>?_⟩
  let a1:G.get? s.heap.objs.size=O {cls:=.type "tuple",data:=.seq #[.int i s.toks,u]}:=(a2.2 _<|Bf L).trans S;let new:dM X.prog X.w (ab H s.heap.objs.size<|.be [.int i,x]) G s.heap.objs.size (.be [.int i,x]):=
   ⟨Ob,[.int i s.toks,u],.cons ⟨_,J⟩<|.cons a0 .nil,⟨_,a1,J,_,J⟩⟩
  let V:ay X pins z (ab H s.heap.objs.size<|.be [.int i,x]) {s with heap:=G,toks:=s.toks+1}:=
   I.Jw (λb ob d q=>(a2.2 b λa4=>d (by simp[a4])).trans<|hk b ob (λa4=>d (by simp[a4])) (λa4=>d (by simp[a4])) q) hf (aN _) new
  refine⟨.ref s.heap.objs.size,_,V,J,⟨_,x,J,I.aF.fresh<|aN _,J,λys W=>I.yY W j▸C⟩,⟨⟨u,?_⟩,R.at λo q=>(a2.2 it<|cB cu).trans q,cu⟩,λb d=>?_⟩
  .let Y:((i+1:Nat):Int)=(i:Int)+1:=Z;exact Y▸T
  .let a3:b<s.heap.objs.size:=by
    have n:b=e\/b=it:=by simpa using d
    rcases n with a4|a4
    .exact a4▸L
    .exact a4▸F
   rw[au<|gm a3];exact(hf b d).1
 done:=by intro X r t y m i pins s z H E I hf st B;subst r t y;have⟨⟨c,f⟩,g,cu⟩:=st;have⟨xs,j,C⟩:=B;have⟨aD,D,p,M⟩:=I.list j;have⟨f0,f1,f2,f3,f4,f5⟩:=hf it Gc;let hl:=D.length;exact wpAny_pyNext_enum_end (I.ok.hd m) f g p.isList (by simp;lia) λh' eb=>⟨J,I.fJ (λb o d q=>eb b o d q) f0 f1 f3 f4 f5⟩
 self:=λA i s Q E st h=>let⟨⟨_,f⟩,_⟩:=st;Èg f h
inductive TH'(K:Ñ)(R:It->Hp->Prop)(vs:List V)(H1:Hp):Prop|m(a xs:_)(_:vs=[.ref a])(_:ao K H1 a xs)(_:R (qG K a) H1)
def TH(K:Ñ)(ta:TA):TI:=λz H R=>ta z H<|TH' K R
def Dv{ta}(j:Gl X "enumerate")(k:X.mg "enumerate"=U)(l:PA X [e] ta)(m:Ð [e] X.ah=[(false,Ï e X.ah)]:=by rfl):PI X (.Tuple elts kk ub) (.Call (.Name "enumerate" p) [e] [] pos) (TH X.K ta):=λpins s z H R I h=>by
 refine η<|n8 I j k boot_enumerate<|u9 (aM (l pos pins s z H _ I h) λus c ⟨vs,H1,f,n,o⟩=>?_) m J;obtain⟨a,xs,ex,t,q⟩:=o;subst ex;cases n with
 |cons r u=>
  cases u;cases r;have⟨aD,A,v,B⟩:=f.list t;refine call_enumerate_list v.isList λh' i g hsz hk=>Èg i ?_;have w:ay X pins z H1 {c with heap:=h'}:=f.cy hk;refine⟨c.heap.objs.size+1,[c.heap.objs.size+1,c.heap.objs.size],_,_,H1,J,w,TF a (c.heap.objs.size+1) c.heap.objs.size,⟨⟨.none,i⟩,g,Nat.succ_ne_self _⟩,λb x=>?_,q⟩;have y:b=c.heap.objs.size+1\/b=c.heap.objs.size:=by simpa using x
  have d:c.heap.objs.size<=b:=by
   rcases y with F|F
   .exact F▸Èh _ _
   .exact F▸aN _
  exact f.qY d<|f.aF.fresh d
def TJ:ź "zip"=O (.type "zip"):=by decide+kernel
section
namespace TL
open PySem PySem.Builtin PySem.Builtin.Str PySem.StrLaws
abbrev tl(x:Ã):List Nat:=x.cps.toList
def pW(x:Ã):x.length=(tl x).length:=by simp[tl,Str.length]
def wJ{y:Ã}(h:tl x=tl y):x=y:=Str.ext'<|Array.toList_inj.mp h
def JG(x y:Ã):tl (x++y)=tl x++tl y:=by show(x++y).cps.toList=_;rw[Str.cps_append,Array.toList_append]
def JH(x:Ã):(⟨(tl x).toArray⟩:Ã)=x:=wJ J
theorem JI:∀{l m:List Ã},l.map tl=m.map tl->l=m
|[],[],_=>rfl
|[],_::_,h|_::_,[],h=>by simp at h
|x::l,y::m,h=>by
 rw[bz,bz]at h;injection h with h1 h2
 rw[wJ h1,JI h2]
def TK(s):tl (ę s)=s.toList.map Char.toNat:=Ñd s
def pre(S l:List Nat):Bool:=l.take S.length==S
def fm(S:List Nat):Nat->List Nat->List Nat->List (List Nat)
|_,acc,[]=>[acc]
|0,acc,c::r=>if pre S (c::r)=true then acc::fm S (S.length-1) [] r else fm S 0 (acc++[c]) r
|k+1,acc,_::r=>fm S k acc r
def par(S:List Nat):List Nat->List Nat->Option (List Nat×List Nat)
|_,[]=>U
|acc,c::r=>if pre S (c::r)=true then O (acc,(c::r).drop S.length)else par S (acc++[c]) r
def zC(S:List Nat)(k:Nat)(acc:List Nat):fm S k acc []=[acc]:=by cases k<;>rfl
def JJ{S r:List Nat}{c:Nat}(h:pre S (c::r)=true):fm S 0 acc (c::r)=acc::fm S (S.length-1) [] r:=by show(if pre S (c::r)=true then acc::fm S (S.length-1) [] r else fm S 0 (acc++[c]) r)=_;rw[aj h]
def JK{S r:List Nat}{c:Nat}(h:pre S (c::r)=false):fm S 0 acc (c::r)=fm S 0 (acc++[c]) r:=by show(if pre S (c::r)=true then acc::fm S (S.length-1) [] r else fm S 0 (acc++[c]) r)=_;rw[ai (h▸eg)]
theorem JL(S:List Nat):∀(k:Nat)(acc l:List Nat),fm S k acc l=fm S 0 acc (l.drop k)
|0,_,_=>by rw[jb]
|k+1,acc,[]=>by rw[List.drop_nil,zC,zC]
|k+1,acc,c::r=>by exact JL S k acc r
def TM{S r:List Nat}{c:Nat}(h:pre S (c::r)=true):par S acc (c::r)=O (acc,(c::r).drop S.length):=by show(if pre S (c::r)=true then O (acc,(c::r).drop S.length)else par S (acc++[c]) r)=_;rw[aj h]
def TN{S r:List Nat}{c:Nat}(h:pre S (c::r)=false):par S acc (c::r)=par S (acc++[c]) r:=by show(if pre S (c::r)=true then O (acc,(c::r).drop S.length)else par S (acc++[c]) r)=_;rw[ai (h▸eg)]
def JM(a:S≠[]):pre S []=false:=by
 cases S with
 |nil=>exact absurd J a
 |cons s S=>rfl
def JN{s c:Nat}(S r:List Nat)(h:c≠s):pre (s::S) (c::r)=false:=by
 cases a:pre (s::S) (c::r)with
 |false=>rfl
 |true=>
  let e:(c::r).take (s::S).length=s::S:=eq_of_beq a;rw[aJ,vf]at e;injection e with b e2
  exact absurd b h
def TQ(S r:List Nat):pre S (S++r)=true:=by show((S++r).take S.length==S)=true;let e:(S++r).take S.length=S:=OB;rw[e]<;>exact sk S
def JO{L:List Nat}{a:Nat}(h:a<L.length):∃c,L.drop a=c::L.drop (a+1):=⟨L[a],mQ h⟩
theorem Dx(S L:List Nat):∀(m a:Nat)(acc:List Nat),a+m<=L.length->(∀k,a<=k->k<a+m->pre S (L.drop k)=false)->fm S 0 acc (L.drop a)=fm S 0 (acc++(L.drop a).take m) (L.drop (a+m))
|0=>λa acc _ _=>by rw[F8,jW,Èi]
|m+1=>λa acc h b=>by
 have g:a<L.length:=Z;obtain⟨c,e⟩:=JO g;have d:=b a (aN _) Z;have f:=Dx S L m (a+1) (acc++[c]) Z λk h1 h2=>b k Z Z;have e2:a+1+m=a+(m+1):=Z;rw[e2]at f;rw[e]at d;rw[e,JK d,f,vf,jc]<;>rfl
theorem wK(S L:List Nat):∀(m a:Nat)(acc:List Nat),a+m<=L.length->(∀k,a<=k->k<a+m->pre S (L.drop k)=false)->par S acc (L.drop a)=par S (acc++(L.drop a).take m) (L.drop (a+m))
|0,a,acc,_,_=>by rw[F8,jW,Èi]
|m+1,a,acc,h,b=>by
 let g:a<L.length:=Z;obtain⟨c,e⟩:=JO g;let d:=b a (aN _) Z;let f:=wK S L m (a+1) (acc++[c]) Z λk h1 h2=>b k Z Z;have e2:a+1+m=a+(m+1):=Z;rw[e2]at f;rw[e]at d;rw[e,TN d,f,vf,jc]<;>rfl
def Dy(L:List Nat)(a b:Nat):(L.drop a).drop b=L.drop (a+b):=by
 first
  |rw[so]
  |rw[so,Èj]
def TR{S L:List Nat}(a:S≠[]){c:Nat}(h:pre S (L.drop c)=true):fm S 0 acc (L.drop c)=acc::fm S 0 [] (L.drop (c+S.length)):=by
 rw[<-Dy];cases e:L.drop c with
 |nil=>rw[e,JM a]at h;cases h
 |cons d r=>
  rw[e]at h;rw[JJ h,JL];cases S with
  |nil=>exact absurd J a
  |cons s S=>rfl
def JP{S L:List Nat}(a:S≠[]){c:Nat}(h:pre S (L.drop c)=true):par S acc (L.drop c)=O (acc,L.drop (c+S.length)):=by
 rw[<-Dy];cases e:L.drop c with
 |nil=>rw[e,JM a]at h;cases h
 |cons d r=>rw[e]at h;rw[TM h]
def Dz{y:Ã}(b:tl y≠[])(i:Nat):At x y x.length i↔pre (tl y) ((tl x).drop i)=true:=by
 have d:=pW x;have a:=pW y;constructor
 .intro h;have h2:=h.2;rw[subAt_eq,a]at h2;exact h2
 .intro h;have e:((tl x).drop i).take (tl y).length=tl y:=eq_of_beq h;have c:=cw ő e;rw[eh,ib]at c;have e2:0<(tl y).length:=Bq.mpr b;refine⟨Z,?_⟩;rw[subAt_eq,a];exact h
def zD{y:Ã}(a:tl y≠[])(h:¬At x y x.length i):pre (tl y) ((tl x).drop i)=false:=by
 cases b:pre (tl y) ((tl x).drop i)with
 |false=>rfl
 |true=>exact absurd ((Dz a i).mpr b) h
def TU{y:Ã}(a:tl y≠[]):1<=y.length:=by let e2:0<(tl y).length:=Bq.mpr a;exact pW y▸e2
def tl_strSub(x:Ã)(i j:Nat):tl (strSub x i j)=((tl x).drop i).take (j-i):=strSub_toList x i j
def JQ(x:Ã)(i:Nat):tl (strSub x i x.length)=(tl x).drop i:=by rw[tl_strSub,pW x];exact jZ (by rw[ib]<;>lia)
theorem JR{x y:Ã}(b:tl y≠[]):∀(g:List Nat)(a f:Nat),a<=(tl x).length->ChainG x y x.length a g f->(∀k,f<=k->¬At x y x.length k)->(partsFrom x y.length a g).map tl=fm (tl y) 0 [] ((tl x).drop a)
|[]=>λa f i h d=>by
 have e:f=a:=h;subst e;show[tl<|strSub x f x.length]=_;have run:=Dx (tl y) (tl x) ((tl x).length-f) f [] Z λk h1 _=>zD b<|d k h1;have e2:f+((tl x).length-f)=(tl x).length:=Z;rw[e2,mR,zC,vg,jZ (by rw[ib]<;>lia)]at run;rw[run,JQ]
|c::r=>λa f i h d=>by
 obtain⟨h1,h2,j,l⟩:=h;have o:c+y.length<=x.length:=h2.1;have p:=pW x;have m:=pW y;have n:=JR b r (c+y.length) f Z l d;show tl (strSub x a c)::(partsFrom x y.length (c+y.length) r).map tl=_;have run:=Dx (tl y) (tl x) (c-a) a [] Z λk k1 k2=>zD b<|j k k1 Z;have e2:a+(c-a)=c:=Z;rw[e2,vg,TR b<|(Dz b c).mp h2]at run;rw[run,n,tl_strSub,m]
def TV(x y:Ã)(d:tl y≠[])(hk:¬Ě x<Ě y):(œ x y).map tl=fm (tl y) 0 [] (tl x):=by
 obtain⟨f,g,e⟩:=occ_tight x y<|TU d;have a:=JR d _ 0 f (cM _) g e;rw[jb]at a;have none_case:occurrences x y 0 x.length (x.length+1)=[]->[x].map tl=fm (tl y) 0 [] (tl x):=λb=>by
  rw[b]at a;rw[<-a];show[tl x]=[tl<|strSub x 0 x.length];rw[sub_whole]
 unfold œ;by_cases h1:(decide (x.length<y.length)||decide (Ě x<Ě y))=true
 .rw[aj h1];have i:x.length<y.length:=by
   simp only[j3,du]at h1;rcases h1 with h|h
   .exact h
   .exact absurd h hk
  refine none_case ?_;cases b:occurrences x y 0 x.length (x.length+1)with
  |nil=>rfl
  |cons c r=>rw[b]at g;have j:c+y.length<=x.length:=g.2.1.1;lia
 .rw[ai h1];by_cases h2:(occurrences x y 0 x.length (x.length+1)).isEmpty=true
  .exact aj h2▸none_case (Éa.mp h2)
  .rw[ai h2,partsBetween_eq];exact a
def JS{y:Ã}(h:y.cps.all (· < 256)=true):¬Ě x<Ě y:=by
 let e:Ě y=1:=by unfold Ě;rw[aj h]
 rw[e];unfold Ě;split
 .omega
 .split<;>omega
def JT(x y:Ã)(c:tl y≠[]):Ď x y=(match par (tl y) [] (tl x)with|some (a,b)=>(⟨a.toArray⟩,y,⟨b.toArray⟩)|none=>(x,ϔ,ϔ)):=by
 let h:=pW x;let f:=pW y;rcases Ñe x y with⟨e,d⟩|⟨i,e,hi,d⟩
 .let run:=wK (tl y) (tl x) (tl x).length 0 [] Z λk _ _=>zD c<|d k;rw[jb,mS,mR]at run;rw[e,run]<;>rfl
 .have j:i+y.length<=x.length:=hi.1;let run:=wK (tl y) (tl x) i 0 [] Z λk _ k2=>zD c<|d k Z;rw[jb,mS,vg,JP c<|(Dz c i).mp hi]at run;rw[e,run];let g:strSub x 0 i=⟨((tl x).take i).toArray⟩:=wJ (by rw[tl_strSub,jb,xG]);let e2:strSub x (i+y.length) x.length=⟨((tl x).drop<|i+(tl y).length).toArray⟩:=wJ (by rw[JQ,f]);rw[g,e2]<;>rfl
def TW{S p cI:List Nat}(b:S≠[])(h:∀i,i<p.length->pre S ((p++(S++cI)).drop i)=false):par S acc (p++(S++cI))=O (acc++p,cI):=by
 have run:=wK S (p++(S++cI)) p.length 0 acc (by rw[bw];lia) λk _ k2=>h k Z;have a:(p++(S++cI)).drop p.length=S++cI:=OC;rw[jb,mS,OB]at run;rw[run,JP b (by rw[a];exact TQ S cI),<-Dy,a,OC]
def TX{S p:List Nat}(h:∀i,i<p.length->pre S (p.drop i)=false):par S acc p=none:=by let run:=wK S p p.length 0 acc Z λk _ k2=>h k Z;rw[jb,mS,mR]at run;exact run
def JU{s:Nat}{S p q:List Nat}(h:s∉p):∀i,i<p.length->pre (s::S) ((p++q).drop i)=false:=λi hi=>by
 let a:i<(p++q).length:=by rw[bw];lia
 let e:(p++q).drop i=(p++q)[i]::(p++q).drop (i+1):=mQ a;rw[e];refine JN _ _ λz=>h ?_;let b:(p++q)[i]=p[i]:=List.getElem_append_left hi;exact z▸b▸Br hi
def TY{s:Nat}{S p cI:List Nat}(h:s∉p):par (s::S) acc (p++(s::S++cI))=O (acc++p,cI):=TW Gc<|JU h
def TZ{s:Nat}{S p:List Nat}(h:s∉p):par (s::S) acc p=none:=TX λi hi=>by let z:=JU (S:=S) (q:=[]) h i hi;rw[jW]at z;exact z
def T0(y:Ã)(parts:List Ã):Ϯ y parts=Str.join y parts:=glued_eq_join y parts
def T1{y:Ã}{s:Nat}{S:List Nat}(c:tl y=s::S){a b:Ã}(h:s∉tl a):Ď (a++y++b) y=(a,y,b):=by
 rw[JT _ y (by rw[c];simp),JG,JG,jc,c,TY h];show((⟨([]++tl a).toArray⟩:Ã),y,(⟨(tl b).toArray⟩:Ã))=_;rw[vg,JH,JH]
def T2{y:Ã}{s:Nat}{S:List Nat}(b:tl y=s::S){a:Ã}(h:s∉tl a):Ď a y=(a,ϔ,ϔ):=by rw[JT _ y (by rw[b];simp),b,TZ h]
end TL
end
theorem JV:∀l:List (Ã×í),aX ((l.map (·.1)).map V.str) (Âj l)
|[]=>.nil
|p::r=>.cons ⟨p.2,J⟩<|JV r
theorem DA:∀{ys:List Ã}{us:List Á},aX (ys.map V.str) us->StrsAre us ys
|[],_,.nil=>.nil
|y::ys,_,.cons r t=>by obtain⟨k,rfl⟩:=r;exact .cons y k<|DA t
def wL(ys:List Ã):Hp->VK->Prop:=λH Q=>∀p,H p=U->Q (.ref p) (ab H p<|.ae<|ys.map V.str)
section
variable {Q:VK}
def uo{l:List (Ã×í)}{ys:List Ã}{k:Nat}(I:ay X pins z H s)(e:l.map (·.1)=ys)(hz:ys.length<=É)(h:wL ys H Q):EP X pins z Q (.ref s.heap.objs.size) {s with toks:=k,heap:=s.heap.push {cls:=.type "list",data:=.seq (Âj l).toArray}}:=by
 let a:=I.aF.fresh<|aN _;refine⟨.ref s.heap.objs.size,ab H s.heap.objs.size<|.ae<|ys.map V.str,I.fH (λb u q=>b_ _ q) (aN _) ⟨by rw[aK];exact hz,Âj l,_,?_,c7 _ J⟩,J,h _ a⟩;exact e▸JV l
def JW{y F:Ã}{t u v}{k:Nat}(I:ay X pins z H s)(h:∀p,H p=U->Q (.ref p) (ab H p (.be [.str x,.str y,.str F]))):EP X pins z Q (.ref s.heap.objs.size) {s with toks:=k,heap:=s.heap.push {cls:=.type "tuple",data:=.seq [ś x t,.str y u,.str F v].toArray}}:=by
 let a:=I.aF.fresh<|aN _;exact⟨.ref s.heap.objs.size,ab H s.heap.objs.size<|.be [.str x,.str y,.str F],I.fH (λb u q=>b_ _ q) (aN _)
  ⟨by show 3<=É;decide,[ś x t,.str y u,.str F v],.cons ⟨t,J⟩<|.cons ⟨u,J⟩<|.cons ⟨v,J⟩ .nil,_,c7 _ J,J,_,J⟩,J,h _ a⟩
end
def T3:iI X "str.split" (λx xs H Q=>c2 λa b=>x=.str a/\xs=[.str b]/\(b.length==0)=false/\a.length+2<=É/\wL (œ a b) H Q):=λpins s z H x xs v us Q I rx rs h=>by
 obtain⟨a,b,rfl,rfl,d,e,h⟩:=h;obtain⟨t,rfl⟩:=rx;cases rs with
 |cons f rs=>
  cases rs;obtain⟨u,rfl⟩:=f;let c:(œ a b).length<=sizeLine:=d5 (Ñf a b) e;let g:(ϯ a (Ū a b 0 a.length (a.length+1)) b.length).length<=sizeLine:=by let i:=Éb a b 0 a.length (a.length+1);rw[Éc];lia
  cases h1:(decide (a.length<b.length)||decide (Ě a<Ě b))
  .cases hf:(Ū a b 0 a.length (a.length+1)).isEmpty
   .refine l5 sr (jY _ _ _) xH (OD _ _) (meets_str_split_sep a b t u h1 d hf Z g) ?_;show EP X pins z Q (.ref s.heap.objs.size) {s with toks:=_,heap:=s.heap.push {cls:=.type "list",data:=.seq (strsFrom s.toks<|ϯ a (Ū a b 0 a.length (a.length+1)) b.length).toArray}};rw[strsFrom_eq];exact uo I ((numbered_texts _ _).trans ((ai<|xI h1).trans<|ai<|xI hf).symm) c h
   .exact l5 sr (jY _ _ _) xH (OD _ _) (meets_str_split_not_found a b t u h1 d hf) (uo (l:=[(a,t)]) I ((ai<|xI h1).trans<|aj hf).symm c h)
  .exact l5 sr (jY _ _ _) xH (OD _ _) (meets_str_split_cannot_occur a b t u h1) (uo (l:=[(a,t)]) I (aj h1).symm c h)
def T4:iI X "str.partition" (λx xs H Q=>c2 λa b=>x=.str a/\xs=[.str b]/\(b.length==0)=false/\a.length<=É/\∀p,H p=U->Q (.ref p) (ab H p (.be [.str (Ď a b).1,.str (Ď a b).2.1,.str (Ď a b).2.2]))):=λpins s z H x xs v us Q I rx rs h=>by
 obtain⟨a,b,rfl,rfl,c,d,h⟩:=h;obtain⟨t,rfl⟩:=rx;cases rs with
 |cons e rs=>
  cases rs;obtain⟨u,rfl⟩:=e;refine l5 Éd (jY _ _ _) F.entry_str_partition (F.args_str_partition_2 _ _) (meets_str_partition a b t u c d) ?_;unfold Ď at h;revert h;cases Ū a b 0 a.length 1 with
  |nil|cons i r=>intro h;exact JW I h
def T5:iI X "str.join" (λx xs H Q=>c2 λa p=>∃ys,x=.str a/\xs=[.ref p]/\(ao X.K H p (ys.map V.str)\/aV X.K H p (ys.map V.str))/\(ys.map (·.length)).sum+ys.length*a.length<=16777216/\Q (.str (Ϯ a ys)) H):=λpins s z H x xs v us Q I rx rs h=>by
 obtain⟨a,p,ys,rfl,rfl,b,c,h⟩:=h;obtain⟨t,rfl⟩:=rx;cases rs with
 |cons d rs=>
  cases rs;cases d;rcases b with b|b
  .obtain⟨aD,r,⟨o,n,e,f,_,hd⟩,_⟩:=I.list b;exact Ñg ⟨o,e,f,n,hd⟩ (vh▸DA r) c λt' k=>⟨.str _,H,I.cN k,⟨t',J⟩,h⟩
  .obtain⟨aD,r,g,_⟩:=I.tuple b;exact Ñh g (vh▸DA r) c λt' k=>⟨.str _,H,I.cN k,⟨t',J⟩,h⟩
def mt0 {id} {C:Ã->Prop} {g:Ã->V} (ĩ:∀a t s Q,C a->(∀u k,bm (g a) u->Q u {s with toks:=k})->Ç (Í X.prog X.w) X.A (call (.builtin id) [.str a t]) Q X.xe s):iI X id (λx xs H Q=>∃a,x=.str a/\xs=[]/\C a/\Q (g a) H):=λpins s z H x xs v us Q I rx rs h=>by
 obtain⟨a,rfl,rfl,b,h⟩:=h;obtain⟨t,rfl⟩:=rx;cases rs;exact ĩ a t s _ b λu k r=>⟨g a,H,I.cN k,r,h⟩
def T6:iI X "str.isdigit" (λx xs H Q=>∃a,x=.str a/\xs=[]/\True/\Q (.bl (ϰ a)) H):=mt0 λ_ _ s _ _ h=>PySem.SC.isdigit<|h _ s.toks J
def T7:io X (.type "int") (λxs H Q=>c2 λa n=>xs=[.str a]/\PySem.intText? a=O n/\a.length<=640/\Q (.int n) H):=λpins s z H xs us Q I rs h=>by
 obtain⟨a,n,rfl,b,c,h⟩:=h;cases rs with
 |cons d rs=>cases rs;obtain⟨t,rfl⟩:=d;exact Ñi b c ⟨.int n,H,I.cN _,⟨_,J⟩,h⟩
def tM0(r:V->List V->Hp->VK->Prop)(to:TE):TE:=λz H Q=>to z H λx H1=>(∃a,x=.str a)/\r x [] H1 Q
def BZ(r:V->List V->Hp->VK->Prop)(to te:TE):TE:=λz H Q=>to z H λx H1=>(∃a,x=.str a)/\te z H1 λy H2=>r x [y] H2 Q
def T9{id}{r:V→List V→Hp→VK→Prop}(slot:Ĳ "str" name id)(ty:ϗ (.builtin id)=pure (.type "method_descriptor"))(ĩ:iI X id r)(ho:PE X o to)(fz:Ċ o name X.ah (Ï o X.ah)=Ï o X.ah:=by rfl) (fC:(apos.endLine==pos.line)=true:=by rfl):PE X (.Call (.Attribute o name apos) [] [] pos) (tM0 r to):=by
 intro pins s z H Q I h;refine PySem.Call_method0 fz fC<|aM (ho pins s z H _ I h) fun v s1 ⟨x,H1,I1,r1,q1⟩=>?_
 obtain⟨⟨a,rfl⟩,q1⟩:=q1;obtain⟨t,rfl⟩:=_root_.id r1;exact⟨"str",_,F.plainAttrs_str,slot,ty,typeIs_str _ _ _,(fun _ e=>nomatch e),Calls.callWith_builtin J<|PySem.evalArgs_none<|ĩ pins s1 z H1 _ [] _ [] Q I1 r1 .nil q1⟩
def uq{id}{r:V->List V->Hp->VK->Prop}(slot:Ĳ "str" name id)(ty:ϗ (.builtin id)=pure (.type "method_descriptor"))(ĩ:iI X id r)(d:PE X o to)(he:PE X e te)(f:Ð [e] X.ah=[(false,Ï e X.ah)]:=by rfl) (g:Ċ o name X.ah (Ï o X.ah)=Ï o X.ah:=by rfl) (i:(apos.endLine==pos.line)=true:=by rfl):PE X (.Call (.Attribute o name apos) [e] [] pos) (BZ r to te):=by
 intro pins s z H Q I h;refine PySem.Call_method1 g f i<|aM (d pins s z H _ I h) λv j q0=>?_;obtain ⟨x,H1,k,c,b⟩:=q0;obtain⟨⟨a,rfl⟩,b⟩:=b;obtain⟨t,rfl⟩:=_root_.id c;refine⟨"str",_,F9,slot,ty,jY _ _ _,(λ_ e=>nomatch e),vb J<|Bh<|sh ?_⟩;exact aM (he pins j z H1 _ k b) λu l ⟨y,H2,m,n,p⟩=>Bg<|ĩ pins l z H2 _ [y] _ [u] Q m c (.cons n .nil) p
def JX(c:PE X o to)(he:PE X e te)(d:Ð [e] X.ah=[(false,Ï e X.ah)]:=by rfl)(f:Ċ o "split" X.ah (Ï o X.ah)=Ï o X.ah:=by rfl)(g:(apos.endLine==pos.line)=true:=by rfl):PE X (.Call (.Attribute o "split" apos) [e] [] pos) (BZ (λx xs H Q=>c2 λa b=>x=.str a/\xs=[.str b]/\(b.length==0)=false/\a.length+2<=É/\wL (œ a b) H Q) to te):=uq sr Ée T3 c he d f g
def T_(c:PE X o to)(he:PE X e te)(d:Ð [e] X.ah=[(false,Ï e X.ah)]:=by rfl)(f:Ċ o "partition" X.ah (Ï o X.ah)=Ï o X.ah:=by rfl)(g:(apos.endLine==pos.line)=true:=by rfl):PE X (.Call (.Attribute o "partition" apos) [e] [] pos) (BZ (λx xs H Q=>c2 λa b=>x=.str a/\xs=[.str b]/\(b.length==0)=false/\a.length<=É/\∀p,H p=U->Q (.ref p) (ab H p (.be [.str (Ď a b).1,.str (Ď a b).2.1,.str (Ď a b).2.2]))) to te):=uq Éd F.type_str_partition T4 c he d f g
def zE(b:PE X o to)(he:PE X e te)(c:Ð [e] X.ah=[(false,Ï e X.ah)]:=by rfl)(d:Ċ o "join" X.ah (Ï o X.ah)=Ï o X.ah:=by rfl)(f:(apos.endLine==pos.line)=true:=by rfl):PE X (.Call (.Attribute o "join" apos) [e] [] pos) (BZ (λx xs H Q=>c2 λa p=>∃ys,x=.str a/\xs=[.ref p]/\(ao X.K H p (ys.map V.str)\/aV X.K H p (ys.map V.str))/\(ys.map (·.length)).sum+ys.length*a.length<=16777216/\Q (.str (Ϯ a ys)) H) to te):=uq F.slot_str_join F.type_str_join T5 b he c d f
def wM:dS X (ó .In) (λx y H Q=>c2 λc F=>x=.str ⟨#[c]⟩/\y=.str F/\Q (.bl (decide (c∈F.cps.toList))) H):=λpins s z H x y v u Q I rx ry h=>by obtain⟨c,F,rfl,rfl,q⟩:=h;obtain⟨t,rfl⟩:=rx;obtain⟨t',rfl⟩:=ry;exact Ñj<|c9 I q (afe F c).symm
def Ua:dS X (ó .NotIn) (λx y H Q=>c2 λc F=>x=.str ⟨#[c]⟩/\y=.str F/\Q (.bl (!decide (c∈F.cps.toList))) H):=λpins s z H x y v u Q I rx ry h=>by obtain⟨c,F,rfl,rfl,q⟩:=h;obtain⟨t,rfl⟩:=rx;obtain⟨t',rfl⟩:=ry;exact Òa<|c9 I q<|cw Bool.not (afe F c).symm
def IsPart.pc{v:Á}{o:Option Int}(p:IsPart v o):∃l,v=partValue l/\l.map (·.1)=o:=by
 cases p with
 |none=>exact⟨U,J,J⟩
 |int i t=>exact⟨O (i,t),J,J⟩
noncomputable def wN(n d:Nat):Option Int->Int
|none=>(d:Int)
|some i=>max 0<|min (if i<0 then i+(n:Int)else i) n
def JY(n d:Nat)(o:Option Int):wN n d o=((HT.bi n d o:Nat):Int):=by
 cases o with
 |none=>rfl
 |some v=>
  show max 0 (min (if v<0 then v+(n:Int)else v) n)=(((if v<0 then(v+(n:Int)).toNat else min v.toNat n):Nat):Int);by_cases a:v<0
  .simp only[aj a];lia
  .simp only[ai a];lia
def Ub(a b:Option Int)(n:Nat):Ŕ a b 1 n=sliceRange (wN n 0 a) (wN n n b) 1:=by
 let h1:(1 > 0)=True:=Gc;cases a<;>cases b<;>first
  |rfl
  |(simp only[Ŕ,wN,h1,fi];rfl)
  |simp[Ŕ,wN]
def Uc(a b:Option Int)(n:Nat):Ŕ a b 1 n=(ø (HT.bi n n b-HT.bi n 0 a)).map (λk=>HT.bi n 0 a+k):=by
 rw[Ub,JY,JY];generalize HT.bi n 0 a=p;generalize HT.bi n n b=q;simp only[sliceRange,show((1:Int) > 0)=True from by simp,fi];by_cases c:(p:Int)<q
 .let d:(((q:Int)-p+1-1) / 1).toNat=q-p:=by first|lia |(simp;done)|(simp;lia)
  simp only[c,fi,d];refine oM λk _=>?_;lia
 .let:q-p=0:=Z;simp[c,this]
def pZ(z:Ã)(lo hi:Option Int):Str:=⟨((z.cps.toList.drop<|HT.bi z.length 0 lo).take<|HT.bi z.length z.length hi-HT.bi z.length 0 lo).toArray⟩
def JZ(z:Ã)(lo hi:Option Int):ς z lo hi=pZ z lo hi:=by
 let h1:HT.bi z.length 0 lo<=z.length:=HT.C3 _ _ (cM _) _;let h2:HT.bi z.length z.length hi<=z.length:=HT.C3 _ _ (aN _) _;let a:HT.bi z.length 0 lo<=max (HT.bi z.length 0 lo) (HT.bi z.length z.length hi):=Nat.le_max_left _ _;let b:max (HT.bi z.length 0 lo) (HT.bi z.length z.length hi)<=z.length:=Nat.max_le.mpr ⟨h1,h2⟩;let hd:max (HT.bi z.length 0 lo) (HT.bi z.length z.length hi)-HT.bi z.length 0 lo=HT.bi z.length z.length hi-HT.bi z.length 0 lo:=Z;let e:Ŕ lo hi 1 z.length=
   Ŕ (O<|(HT.bi z.length 0 lo:Nat)) (O<|(max (HT.bi z.length 0 lo) (HT.bi z.length z.length hi):Nat)) 1 z.length:=by
  rw[Òb a b,hd,Uc]
 let e2:ς z lo hi=
   ς z (O<|(HT.bi z.length 0 lo:Nat)) (O<|(max (HT.bi z.length 0 lo) (HT.bi z.length z.length hi):Nat)):=by
  unfold ς;rw[e]
 rw[e2,Òc z a b,hd];rfl
def Ud(z:Ã)(lo hi:Option Int):(pZ z lo hi).length<=z.length:=by show(((z.cps.toList.drop<|HT.bi z.length 0 lo).take<|HT.bi z.length z.length hi-HT.bi z.length 0 lo).toArray).size<=z.cps.size;rw[cx,eh,ib,qw];omega
inductive Ue(x:V)(lo hi:Option Int)(H:Hp)(Q:VK):Prop|m(z:_)(_:x=.str z)(_:z.length<=É)(_:Q (.str<|pZ z lo hi) H)
def J0:BQ X Ue:=λpins s z H x v i j lo hi sl Q I rx b pl pu h=>by
 refine gg λP0 p0=>?_;obtain⟨a0,rfl,d,q⟩:=h;obtain⟨t,rfl⟩:=rx;obtain⟨os,e,f,g⟩:=b;obtain⟨l,rfl,rfl⟩:=IsPart.pc pl;obtain⟨u,rfl,rfl⟩:=IsPart.pc pu;refine p0 ?_;refine⟨"str",_,F.slot_str_getitem.lookup,jY _ _ _,?_⟩;refine wpAny_getItem_str_slice (st:=U) ⟨os,e,f,g⟩ J ?_;have a:(ς a0 (l.map (·.1)) (u.map (·.1))).length<=sizeLine:=by rw[JZ];exact d5 (Ud a0 _ _) d
 rw[<-JZ]at q;unfold ς at q a;show Made.post (if((1:Int)==1&&(Ŕ (l.map (·.1)) (u.map (·.1)) 1 a0.length).length==a0.length)=true then Made.val<|.str a0 t
  else Made.str ⟨((Ŕ (l.map (·.1)) (u.map (·.1)) 1 a0.length).filterMap (a0.cps[·]?)).toArray⟩) (EP X pins z Q) s
 by_cases c:((1:Int)==1&&(Ŕ (l.map (·.1)) (u.map (·.1)) 1 a0.length).length==a0.length)=true
 .rw[aj c]at q⊢;exact⟨.str a0,H,I,⟨t,J⟩,q⟩
 .rw[ai c]at q a⊢;exact⟨a,.str _,H,I.cN _,⟨_,J⟩,q⟩
noncomputable def cK(s:Đ)(j:Nat):Stmt:=match s with
 |.ClassDef _ _ _ body _ _ _ _ _ _ _=>body.getD j<|.Pass ⟨0,0,0,0⟩
 |_=>.Pass ⟨0,0,0,0⟩
def mz(s:Đ):Arguments:=match s with
 |.FunctionDef _ a _ _ _ _ _ _ _ _=>a
 |_=>{posonlyargs:=[],args:=[],vararg:=U,kwonlyargs:=[],kw_defaults:=[],kwarg:=U,defaults:=[]}
def kr(s:Đ):List Stmt:=match s with
 |.FunctionDef _ _ b _ _ _ _ _ _ _=>b
 |_=>[]
def gP(s:Đ):Scope:=match s with
 |.FunctionDef _ _ _ _ _ _ sc _ _ _=>sc
 |_=>{kind:=.function,names:=[],isGenerator:=false,isCoroutine:=false}
abbrev pd:sV:=λ_ _ _ _ _ _=>False
abbrev E0:XK:=λ_ _ _=>False
def ur:pM pd X E0:=λ_ _ _ _ _ _ _ h=>h.elim
structure p0(K:Ñ)(x qual:Ã)(st:Đ)(f:À)(fd:θ):Prop where
 ex:∃(oc:Á)(od:Option À)(kV doc pm:Á)(an:Option À)(cC ct:Á)(kU:Array (Option Á)),
  fd=Ī x qual (mz st) (kr st) (gP st) .none kV doc pm an cC ct/\K.lookup f=O ⟨oc,od,.func fd,kU⟩/\ν K cC qual=true
 kp:İ K (.ref f)=true
def p0.ok{f:À}{k:Nat}(F:p0 K x qual st f fd)(S:rh N ps (gP st))(len:∀vs H Q E,sp vs H Q E->vs.length=ps.length)(a:∀cC A b0 s H vs Q E,cO k (A.deeper (Ň qual (gP st) s.heap.objs.size f cC))->sp vs H Q E->∃t,iF (rj pd P w K mg base N qual (gP st) f cC A b0 s H E).xT (kr st) t/\t {nx:=λ_ H'=>Q .aQ H',rt:=Q} (start N vs) H):fY P w K mg base pd (k+1) f fd ps sp:=by
 obtain⟨oc,od,kV,doc,pm,an,cC,ct,kU,rfl,b,c⟩:=F.ex;refine R5 b c S len λA b0 s H vs Q E d e=>?_;obtain⟨t,h,q⟩:=a cC A b0 s H vs Q E d e;exact⟨t,h.xT,q⟩
def p0.og{f:À}(F:p0 K x qual st f fd)(h:∀kV doc pm an cC ct us,us.length=ps.length->ϕ (Ī x qual (mz st) (kr st) (gP st) .none kV doc pm an cC ct) ⟨us,[]⟩=pure (ps.zip us)):jn K fd ps []:=by
 obtain⟨oc,od,kV,doc,pm,an,cC,ct,kU,rfl,a,b⟩:=F.ex;exact .all<|h kV doc pm an cC ct
def DB{f:À}{oc:Á}{od an:Option À}{kU:Array (Option Á)}{kV doc pm cC ct:Á}(l:K.lookup f=O ⟨oc,od,.func (Ī x qual (mz st) (kr st) (gP st) .none kV doc pm an cC ct),kU⟩)(c:ν K cC qual=true) (k:İ K (.ref f)=true):p0 K x qual st f (Ī x qual (mz st) (kr st) (gP st) .none kV doc pm an cC ct):=⟨⟨oc,od,kV,doc,pm,an,cC,ct,kU,J,l,c⟩,k⟩
def jp(a:cO k A):A.units+1<cLine:=Nat.lt_of_le_of_lt (Nat.add_le_add_left (by decide:1<=64) _) a.units
def pv(i:Nat)(a:X.N[i]?=O x:=by rfl)(b:vt X.ah.scope x:=by first|exact Ĵ rfl|exact ī (Ĵ rfl)|exact ī (ī rfl))(hd:(x==("__debug__":Ã))=false:=by decide)(c:(x==("__classdict__":Ã))=false:=by decide):PE X (.Name x pos) (dD i):=QW a b hd c
def Uf:io X (.builtin "len") (λxs H Q=>c2 λa ag=>xs=[V.ref a]/\H a=O (.dK ag)/\Q (.int ag.length) H):=λpins s z H xs us Q I r h=>by
 obtain⟨a,ag,rfl,b,q⟩:=h;obtain⟨u,rfl,c⟩:=q_ r;cases c;exact SX I (.inl b) λt s' d=>⟨.int ag.length,H,d,⟨t,J⟩,q⟩
def aU{A B}(h:B):if false=true then A else B:=ai eg▸h
def ba{A B}(h:A):if true=true then A else B:=aj J▸h
def ak{A B}{c}(e:c=true)(h:A):if c=true then A else B:=aj e▸h
def al{A B}{c}(e:c=false)(h:B):if c=true then A else B:=e▸aU h
def am{A B}{c d}(e:c=d)(h:if d=true then A else B):if c=true then A else B:=e▸h
def aI{A B c} [Decidable c](e:¬c)(h:B):if c then A else B:=ai e▸h
def aC{A B c} [Decidable c](e:c)(h:A):if c then A else B:=aj e▸h
def dq{c A B} [Decidable c](h1:c->A)(h2:¬c->B):if c then A else B:=by
 by_cases h:c
 .exact aj h▸h1 h
 .exact ai h▸h2 h
def aa(H H':Hp):Prop:=∀b o,H b=O o->H' b=O o
def aa.refl(H:Hp):aa H H:=λ_ _ h=>h
def aa.trans(a:aa H H1)(b:aa H1 H2):aa H H2:=λc o h=>b c o<|a c o h
def aa.free(e:aa H H')(h:H' l=Ãa):H l=Option.none:=by
 cases q:H l with
 |none=>rfl
 |some o=>
  rw[e l o q]at h;cases h
def aa.seq(e:aa H H')(h:ao K H a xs):ao K H' a xs:=by
 rcases h with(h|⟨o,h⟩)|h
 .exact .inl<|.inl<|e _ _ h
 .exact .inl<|.inr ⟨o,e _ _ h⟩
 .exact .inr h
section
variable [DecidableEq κ]
def J1{ag:List (κ×V)}{k:κ}(h:bT ag k=U):¬k∈ag.map (·.1):=λm=>by obtain⟨p,a,e⟩:=bZ.mp m;let q:(ag.any λb=>decide (b.1=k))=true:=l7.mpr ⟨p,a,bP e⟩;rw[pR,h]at q;exact absurd q Gc
def Ug{ag:List (κ×V)}{k:κ}(h:bT ag k=O v):k∈ag.map (·.1):=by
 let q:(ag.any λa=>decide (a.1=k))=true:=by
  rw[pR,h]
  all_goals rfl
 obtain⟨p,b,e⟩:=l7.mp q;exact bZ.mpr ⟨p,b,dR e⟩
theorem zF:∀{l:List κ}{k:κ},l.Nodup->¬k∈l->(l++[k]).Nodup
|[],k,_,_=>by simp
|a::r,k,h,hk=>by
 obtain⟨h1,h2⟩:=si.mp h;refine si.mpr ⟨λm=>?_,zF h2 λm=>hk<|a_.mpr<|ī m⟩;rcases d6.mp m with q|q
 .exact h1 q
 .exact hk<|a_.mpr<|Ĵ (F_.mp q).symm
end
def Uh{z:Int}(e:z=(j:Int))(h:xs[j]?=O v):gX xs z=O v:=e▸cb h
def DC{l:List α}(c:l.Nodup){x:α}(a:l[i]?=O x)(b:l[j]?=O x):i=j:=by obtain⟨h1,d⟩:=b9.mp a;obtain⟨h2,e2⟩:=b9.mp b;exact(Åc c).mp<|d.trans e2.symm
def aa.made{x:À}(nx:H x=Ãa)(nd:H dx=Ãa)(k:∀b o,(ab (ab H dx (.own x)) x (.aO C dx [])) b=O o->b≠x->H1 b=O o):aa H H1:=λb o e=>k b o (by rw[au<|bv e nx,au<|bv e nd];exact e)<|bv e nx
section
open PySem.W (WData Codec OpenSpec Well WellAll ReadsW ReadsAllW)
mutual
inductive Dw (K:Ñ) (H:Hp):V->ă->Prop
 |aQ:Dw K H .aQ .none
 |bl (b:Bool):Dw K H (.bl b) (.bool b)
 |int (i:Int):Dw K H (.int i) (.int i)
 |str (x:Ã):Dw K H (.str x) (.str x)
 |ig (b:Array UInt8):Dw K H (.ig b) (.bytes b.toList)
 |ae {a:À} {xs:List V} {ds:List ă}:ao K H a xs->kt K H xs ds->Dw K H (.ref a) (.list ds)
 |be {a:À} {xs:List V} {ds:List ă}:aV K H a xs->kt K H xs ds->Dw K H (.ref a) (.tuple ds)
inductive kt (K:Ñ) (H:Hp):List V->List ă->Prop
 |nil:kt K H [] []
 |cons {v:V} {vs:List V} {d:ă} {ds:List ă}:Dw K H v d->kt K H vs ds->kt K H (v::vs) (d::ds)
end
theorem Ui{K:Ñ}{H:Hp}:∀ns:List Int,kt K H (ns.map V.int) (ns.map Éf)
|[]=>.nil
|n::r=>.cons (.int n)<|Ui r
theorem Uj{K:Ñ}{H:Hp}:∀(ns:List Int)(xs:List V),kt K H xs (ns.map Éf)->xs=ns.map V.int
|[]=>λxs h=>by cases h;rfl
|n::r=>λxs h=>by
 cases h with
 |cons h1 h2=>cases h1;rw[Uj r _ h2]<;>rfl
section
variable {R:Ég} {cl:Ã->Option À}
def Uk(aF:dv P w H h)(c:K.In h)(q:ao K H a xs):c3 λaD o n=>aX xs aD/\h.get? a=O o/\o.cls=.type "list"/\o.data=.seq aD.toArray n:=by
 rcases q with q|⟨o,aD,n,e,d,_,hd,_,b⟩
 .obtain⟨_,aD,n,b,e⟩:=(show dM P w H h a (.ae xs)from q.ok aF);exact⟨aD,_,n,b,e,J,J⟩
 .exact⟨aD.toList,o,n,b,c _ _ e,d,by simp[hd]⟩
def Ul(aF:dv P w H h)(d:K.In h)(q:aV K H a xs):c3 λaD o n=>aX xs aD/\h.get? a=O o/\o.cls=.type "tuple"/\o.data=.seq aD.toArray n:=by
 rcases q with q|⟨o,aD,n,e,b,hd,_,c⟩
 .obtain⟨_,aD,c,o,e,b,n,hd⟩:=(show dM P w H h a (.be xs)from q.ok aF);exact⟨aD,o,n,c,e,b,hd⟩
 .exact⟨aD.toList,o,n,c,d _ _ e,b,by simp[hd]⟩
mutual
theorem Dw.ol (aF:dv P w H h) (KX:K.In h):∀(d:ă)(v:V)(u:Á),Dw K H v d->bm v u->∃as,ReadsW R cl h u d as
|.none,_,_,x,r=>by
 cases x;cases r;exact⟨_,ReadsW.none⟩
|.bool b,_,_,x,r=>by
 cases x;cases r;exact⟨_,ReadsW.bool b⟩
|.int i,_,_,x,r=>by
 cases x;obtain⟨t,rfl⟩:=r;exact⟨_,ReadsW.int i t⟩
|.str s,_,_,x,r=>by
 cases x;obtain⟨t,rfl⟩:=r;exact⟨_,ReadsW.str s t⟩
|.bytes b,_,_,x,r=>by
 cases x;obtain⟨t,rfl⟩:=r;exact⟨_,ReadsW.bytes _ t⟩
|.list ds,_,_,x,r=>by
 cases x with
 |ae hs ha=>
  cases r;obtain⟨aD,o,n,rv,ho,hc,hd⟩:=Uk aF KX hs;obtain⟨as,hr⟩:=Dw.rp aF KX ds _ aD ha rv;exact⟨_,ReadsW.list ho hc hd hr⟩
|.tuple ds,_,_,x,r=>by
 cases x with
 |be hs ha=>
  cases r;obtain⟨aD,o,n,rv,ho,hc,hd⟩:=Ul aF KX hs;obtain⟨as,hr⟩:=Dw.rp aF KX ds _ aD ha rv;exact⟨_,ReadsW.tuple ho hc hd hr⟩
|.float _,_,_,x,_|.dict _,_,_,x,_|.bytearray _,_,_,x,_|.set _,_,_,x,_|.frozenset _,_,_,x,_|.obj _ _,_,_,x,_=>by cases x
theorem Dw.rp (aF:dv P w H h) (KX:K.In h):∀(ds:List ă)(vs:List V)(us:List Á),kt K H vs ds->aX vs us->∃as,ReadsAllW R cl h us ds as
|[],_,_,x,r=>by
 cases x;cases r;exact⟨_,ReadsAllW.nil⟩
|d::ds,_,_,x,r=>by
 cases x with
 |cons h1 h2=>
  cases r with
  |cons r1 r2=>
   obtain⟨as,q1⟩:=Dw.ol aF KX d _ _ h1 r1;obtain⟨bs,q2⟩:=Dw.rp aF KX ds _ _ h2 r2;exact⟨_,ReadsAllW.cons q1 q2⟩
end
end
mutual
def j7:ă->Bool
|.none|.bool _|.int _|.str _|.bytes _=>true
|.list xs|.tuple xs=>ku xs
|_=>false
def ku:List ă->Bool
|[]=>true
|x::r=>j7 x&&ku r
end
theorem J2{α:Type}{f:α->ă}(h:∀a,j7 (f a)=true):∀l:List α,ku (l.map f)=true
|[]=>rfl
|x::r=>by show(j7 (f x)&&ku (r.map f))=true;rw[h x,J2 h r]<;>rfl
theorem p6:∀(c:Codec)(a:c.denote),j7 (c.enc a)=true
|.unit,_|.bool,_|.int _ _,_|.nat _ _,_|.u8,_|.bytes _ _,_|.text _ _ _ _,_|.option c,U=>rfl
|.list _ _ c,a=>J2 (λx=>p6 c x) a
|.pair c d,a=>by show(j7 (c.enc a.1)&&(j7 (d.enc a.2)&&true))=true;rw[p6 c a.1,p6 d a.2]<;>rfl
|.triple c d e,a=>by show(j7 (c.enc a.1)&&(j7 (d.enc a.2.1)&&(j7 (e.enc a.2.2)&&true)))=true;rw[p6 c a.1,p6 d a.2.1,p6 e a.2.2]<;>rfl
|.option c,O x=>p6 c x
theorem J3:∀(b:List Codec)(a:ϱ b),ku (τ b a)=true
|[]=>λ_=>rfl
|c::b=>λa=>by show(j7 (c.enc a.1)&&ku (τ b a.2))=true;rw[p6 c a.1,J3 b a.2]<;>rfl
theorem DD:∀{xs:List ă}{d:ă},d∈xs->d.weight<=ϲ xs
|[],d,h=>absurd h Gc
|x::r,d,h=>by
 show d.weight<=x.weight+1+ϲ r;rcases a_.mp h with e|m
 .rw[e];lia
 .have z:=DD m;lia
def iJ:Á->V
|.none=>.aQ
|.bool b=>.bl b
|.int i _=>.int i
|.str x _=>.str x
|.bytes b _=>.ig b
|.ref a=>.ref a
|_=>.aQ
def kZ(A:List À):Á->Prop
|.none|.bool _|.int _ _|.str _ _|.bytes _ _=>True
|.ref a=>a∈A
|_=>False
def kZ.dE{A B:List À}(h:∀a∈A,a∈B):∀{u:Á},kZ A u->kZ B u:=λ{u} x=>by
 cases u with
 |ref a=>exact h a x
 |none|bool b|int i t|str s t|bytes b t=>trivial
 |_=>exact ņ x
def Um{A:List À}(x:kZ A u):bm (iJ u) u:=by
 cases u with
 |ref a|none|bool b=>rfl
 |int i t|str s t|bytes b t=>exact⟨t,J⟩
 |_=>exact ņ x
theorem ut{A:List À}:∀{vs:List Á},(∀u∈vs,kZ A u)->aX (vs.map iJ) vs
|[]=>λ_=>.nil
|u::r=>λh=>.cons (Um<|h u<|kN ..)<|ut λx a=>h x<|f8 _ a
inductive kx(h:á)(A:List À)(a:À):Prop|m(vs:List Á)(_:vs.length<=É)(_:(∀u∈vs,kZ A u))(_:(h.get? a=O {cls:=.type "list",data:=.seq vs.toArray}\/h.get? a=O {cls:=.type "tuple",data:=.seq vs.toArray}))
def kx.dE{A B:List À}(k:∀a∈A,a∈B)(x:kx h A a):kx h B a:=by obtain⟨vs,h1,h2,b⟩:=x;exact⟨vs,h1,λu c=>(h2 u c).dE k,b⟩
theorem zG{P:ŕ}{h:á}:∀{vs:List Á}{ds:List ă},ū P h vs ds->vs.length=ds.length
|_,_,.nil=>rfl
|_,_,.cons _ b=>by show _+1=_+1;rw[zG b]
def J4{P}{v:Á}(x:Well P h v (.list ds)):c2 λa vs=>v=.ref a/\h.get? a=O {cls:=.type "list",data:=.seq vs.toArray}/\ū P h vs ds:=by
 cases x with
 |list b c=>exact⟨_,_,J,b,c⟩
def J5{P}{v:Á}(x:Well P h v (.tuple ds)):c2 λa vs=>v=.ref a/\h.get? a=O {cls:=.type "tuple",data:=.seq vs.toArray}/\ū P h vs ds:=by
 cases x with
 |tuple b c=>exact⟨_,_,J,b,c⟩
def J6{P}{d:ă}(x:ū P h us (d::ds)):c2 λv vs=>us=v::vs/\Well P h v d/\ū P h vs ds:=by
 cases x with
 |cons a b=>exact⟨_,_,J,a,b⟩
def J7(h:n<=1048576):n<=sizeLine:=d5 h gn
section
variable {P:ŕ}
mutual
theorem Uo:∀(d:ă)(v:Á),Well P h v d->j7 d=true->d.weight<=1048576->∃A:List À,kZ A v/\∀a∈A,kx h A a
|.none,_,x,_,_|.bool b,_,x,_,_|.int i,_,x,_,_|.str s,_,x,_,_|.bytes b,_,x,_,_=>by
 cases x;exact⟨[],dO,λa m=>absurd m Gc⟩
|.list ds,_,x,p,z=>by
 obtain⟨a,vs,rfl,ho,cT⟩:=J4 x;let z2:ϲ ds<=1048576:=z;obtain⟨A,h1,h2⟩:=zH ds _ cT p λd hd=>d5 (DD hd) z2;let k:∀b∈A,b∈a::A:=λb hb=>f8 _ hb;refine⟨a::A,kN ..,λb hb=>?_⟩;rcases a_.mp hb with e|m
 .rw[e];exact⟨vs,J7 (by rw[zG cT];exact d5 (aff ds) z2),λu hu=>(h1 u hu).dE k,.inl ho⟩
 .exact(h2 b m).dE k
|.tuple ds,_,x,p,z=>by
 obtain⟨a,vs,rfl,ho,cT⟩:=J5 x;let z2:ϲ ds<=1048576:=z;obtain⟨A,h1,h2⟩:=zH ds _ cT p λd hd=>d5 (DD hd) z2;let k:∀b∈A,b∈a::A:=λb hb=>f8 _ hb;refine⟨a::A,kN ..,λb hb=>?_⟩;rcases a_.mp hb with e|m
 .rw[e];exact⟨vs,J7 (by rw[zG cT];exact d5 (aff ds) z2),λu hu=>(h1 u hu).dE k,.inr ho⟩
 .exact(h2 b m).dE k
|.float _,_,_,p,_|.dict _,_,_,p,_|.bytearray _,_,_,p,_|.set _,_,_,p,_|.frozenset _,_,_,p,_|.obj _ _,_,_,p,_=>Ãb<|show false=true from p
theorem zH:∀(ds:List ă)(vs:List Á),ū P h vs ds->ku ds=true->(∀d∈ds,d.weight<=1048576)->∃A:List À,(∀u∈vs,kZ A u)/\∀a∈A,kx h A a
|[],_,x,_,_=>by
 cases x;exact⟨[],λu m=>absurd m Gc,λa m=>absurd m Gc⟩
|d::ds,_,x,p,z=>by
 obtain⟨v,vs,rfl,x1,x2⟩:=J6 x;let q:j7 d=true/\ku ds=true:=afg.mp p;obtain⟨A,a1,a2⟩:=Uo d v x1 q.1<|z d<|kN ..;obtain⟨B,b1,b2⟩:=zH ds vs x2 q.2 λe he=>z e<|f8 _ he;let kA:∀b∈A,b∈A++B:=λb hb=>d6.mpr<|.inl hb;let kB:∀b∈B,b∈A++B:=λb hb=>d6.mpr<|.inr hb;refine⟨A++B,λu hu=>?_,λb hb=>?_⟩
 .rcases a_.mp hu with e|m
  .rw[e];exact a1.dE kA
  .exact(b1 u m).dE kB
 .rcases d6.mp hb with m|m
  .exact(a2 b m).dE kA
  .exact(b2 b m).dE kB
end
end
noncomputable def zI(o:Ó):Option HO:=match o.data with
 |.seq vs _=>if(o.cls==Ź "list")=true then O (.cn o<|.ae<|vs.toList.map iJ)else O<|.cn o<|.be<|vs.toList.map iJ
 |_=>U
noncomputable def gB(K:Ñ)(h:á)(A:List À):Hp:=λb=>if b∈A then(if(K.lookup b).isNone=true then(h.get? b).bind zI else U)else U
def wO(H:Hp):Prop:=∀b,H b=U\/c2 λo u=>H b=O (.cn o u)
def J8(vs:List Á):zI {cls:=.type "list",data:=.seq vs.toArray}=O (.cn {cls:=.type "list",data:=.seq vs.toArray} (.ae (vs.map iJ))):=by show(if(Ź "list"==Ź "list")=true then O (HO.cn {cls:=.type "list",data:=.seq vs.toArray}<|.ae<|vs.toArray.toList.map iJ)else O (HO.cn {cls:=.type "list",data:=.seq vs.toArray}<|.be<|vs.toArray.toList.map iJ))=_;rw[aj<|sk _]
def J9(vs:List Á):zI {cls:=.type "tuple",data:=.seq vs.toArray}=O (.cn {cls:=.type "tuple",data:=.seq vs.toArray} (.be (vs.map iJ))):=by show(if(Ź "tuple"==Ź "list")=true then O (HO.cn {cls:=.type "tuple",data:=.seq vs.toArray}<|.ae<|vs.toArray.toList.map iJ)else O (HO.cn {cls:=.type "tuple",data:=.seq vs.toArray}<|.be<|vs.toArray.toList.map iJ))=_;rw[ai gn]
section
variable {A:List À}
def zJ{o:Ó}(a:b∈A)(hk:K.lookup b=U)(e:h.get? b=O o):gB K h A b=zI o:=by unfold gB;rw[aj a,hk,aj<|show U.isNone=true from J,e]<;>rfl
def Up{u:HO}(q:gB K h A b=O u):b∈A/\K.lookup b=none:=by
 unfold gB at q;by_cases a:b∈A
 .rw[aj a]at q;cases hk:K.lookup b with
  |none=>exact⟨a,J⟩
  |some o=>
   rw[hk,ai Gc]at q;cases q
 .rw[ai a]at q;cases q
def zK(d:∀a∈A,kx h A a){u:HO}(q:gB K h A b=O u):K.lookup b=U/\∃vs:List Á,vs.length<=É/\(∀u∈vs,kZ A u)/\((h.get? b=O {cls:=.type "list",data:=.seq vs.toArray}/\u=.cn {cls:=.type "list",data:=.seq vs.toArray} (.ae (vs.map iJ)))\/(h.get? b=O {cls:=.type "tuple",data:=.seq vs.toArray}/\u=.cn {cls:=.type "tuple",data:=.seq vs.toArray} (.be (vs.map iJ)))):=by
 obtain⟨c,hk⟩:=Up q;obtain⟨vs,h1,h2,f⟩:=d b c;refine⟨hk,vs,h1,h2,?_⟩;rcases f with e|e
 .rw[zJ c hk e,J8]at q;exact .inl ⟨e,(cZ q).symm⟩
 .rw[zJ c hk e,J9]at q;exact .inr ⟨e,(cZ q).symm⟩
def Uq(c:∀a∈A,kx h A a):wO (gB K h A):=λb=>by
 cases q:gB K h A b with
 |none=>exact .inl J
 |some u=>
  obtain⟨_,vs,_,_,⟨_,e⟩|⟨_,e⟩⟩:=zK c q
  .exact .inr ⟨_,_,by rw[e]⟩
  .exact .inr ⟨_,_,by rw[e]⟩
def Ur(c:∀a∈A,kx h A a):dv P w (gB K h A) h:=λb u q=>by
 obtain⟨_,vs,h1,h2,⟨e,rfl⟩|⟨e,rfl⟩⟩:=zK c q
 .exact⟨e,by rw[aK];exact h1,vs,_,ut h2,e⟩
 .exact⟨e,by rw[aK];exact h1,vs,ut h2,_,e,J,_,J⟩
def zL{c a:Á}{vs:List Á}(e:(O {cls:=c,data:=.seq vs.toArray}:Option Ó)=O {cls:=a,data:=.seq us.toArray}):c=a/\vs=us:=by
 let b:=cZ e;let e2:c=a:=cw Obj.cls b;let d:ϳ vs.toArray=ϳ us.toArray:=cw Obj.data b;injection d with f
 refine⟨e2,?_⟩;let g:=cw Ád f;simpa using g
def Us(c:K.In h)(d:∀a∈A,kx h A a){vs:List Á}(b:a∈A)(e:h.get? a=O {cls:=.type "list",data:=.seq vs.toArray}):(∀u∈vs,kZ A u)/\ao K (gB K h A) a (vs.map iJ):=by
 obtain⟨us,h1,h2,f⟩:=d a b;have g:us=vs:=by
  rcases f with q|q
  .rw[e]at q;exact(zL q).2.symm
  .rw[e]at q;exact absurd (Éh (zL q).1) gn
 subst g;refine⟨h2,?_⟩;cases hk:K.lookup a with
 |none=>exact .inl<|.inr ⟨_,by rw[zJ b hk e,J8]⟩
 |some o=>have e2:=c a o hk;rw[e]at e2;obtain rfl:=cZ e2;exact .inr ⟨_,us.toArray,_,hk,J,J,J,cx▸h1,by simpa using ut h2⟩
def Ut(c:K.In h)(d:∀a∈A,kx h A a){vs:List Á}(b:a∈A)(e:h.get? a=O {cls:=.type "tuple",data:=.seq vs.toArray}):(∀u∈vs,kZ A u)/\aV K (gB K h A) a (vs.map iJ):=by
 obtain⟨us,h1,h2,f⟩:=d a b;have g:us=vs:=by
  rcases f with q|q
  .rw[e]at q;exact absurd (Éh (zL q).1) gn
  .rw[e]at q;exact(zL q).2.symm
 subst g;refine⟨h2,?_⟩;cases hk:K.lookup a with
 |none=>exact .inl<|.inr ⟨_,by rw[zJ b hk e,J9]⟩
 |some o=>have e2:=c a o hk;rw[e]at e2;obtain rfl:=cZ e2;exact .inr ⟨_,us.toArray,_,hk,J,J,cx▸h1,by simpa using ut h2⟩
mutual
theorem Uu {Pm:ŕ} (KX:K.In h) (ar:∀a∈A,kx h A a):∀(d:ă)(v:Á),Well Pm h v d->j7 d=true->kZ A v->Dw K (gB K h A) (iJ v) d
|.none,_,x,_,_=>by
 cases x;exact .aQ
|.bool b,_,x,_,_=>by
 cases x;exact .bl b
|.int i,_,x,_,_=>by
 cases x;exact .int i
|.str s,_,x,_,_=>by
 cases x;exact .str s
|.bytes b,_,x,_,_=>by
 cases x;let z:=Dw.ig (K:=K) (H:=gB K h A) b.toArray;exact z
|.list ds,_,x,p,hu=>by
 obtain⟨a,vs,rfl,ho,cT⟩:=J4 x;obtain⟨h2,hs⟩:=Us KX ar hu ho;exact .ae hs<|zM KX ar ds _ cT p h2
|.tuple ds,_,x,p,hu=>by
 obtain⟨a,vs,rfl,ho,cT⟩:=J5 x;obtain⟨h2,hs⟩:=Ut KX ar hu ho;exact .be hs<|zM KX ar ds _ cT p h2
|.float _,_,_,p,_|.dict _,_,_,p,_|.bytearray _,_,_,p,_|.set _,_,_,p,_|.frozenset _,_,_,p,_|.obj _ _,_,_,p,_=>Ãb<|show false=true from p
theorem zM {Pm:ŕ} (KX:K.In h) (ar:∀a∈A,kx h A a):∀(ds:List ă)(vs:List Á),ū Pm h vs ds->ku ds=true->(∀u∈vs,kZ A u)->kt K (gB K h A) (vs.map iJ) ds
|[],_,x,_,_=>by
 cases x;exact .nil
|d::ds,_,x,p,hu=>by
 obtain⟨v,vs,rfl,x1,x2⟩:=J6 x;let q:j7 d=true/\ku ds=true:=afg.mp p;exact .cons (Uu KX ar d v x1 q.1<|hu _<|kN ..)<|zM KX ar ds vs x2 q.2 λu m=>hu u<|f8 _ m
end
end
def Uv{g:Ã->Option Á}{k:Nat}{B:À}{a:Ì}{vals:List Á}{R}{cl:Ã->Option À}{d0:ă}(h:K.In a.heap) (C:a.heap.Ns î mg) (i:a.heap.Ns Áa g) (Q:∀x:Ã,x≠"__name__"->g x=ź x) (S:a.heap.NoLimit) (T:a.gens=#[])(j:ū w.params a.heap vals ds) (dJ:ku ds=true) (l:∀d∈ds,d.weight<=1048576) (a1:cO k υ)(F:∀base,K.In base->base.Ns î mg->fY P w K mg base CX k B fd ps sp) (W:∀s us,us.length=ps.length->ι s fd ⟨us,[]⟩ (ps.zip us)) (hlen:ds.length=ps.length)(X:∀H xs,wO H->kt K H xs ds->sp xs H (λv H'=>Dw K H' v d0) λ_ _ _=>False)(Y:∀H e s',CX [] H a (λ_ _ _=>False) e s'->False):ŏ (Í P w) υ (.call (.ref B) ⟨vals,[]⟩) (λr s'=>c2 λu as=>r=.ok (.ret u)/\ReadsW R cl s'.heap u d0 as/\OldK a.heap s'.heap/\s'.os=a.os/\Ż s'.gens) a:=by
 obtain⟨A,D,c⟩:=zH ds vals j dJ l;have p:wO (gB K a.heap A):=Uq c;have aF:dv P w (gB K a.heap A) a.heap:=Ur c;have E:=zM h c ds vals j dJ D;have a3:=ut D;have G:∀b u,gB K a.heap A b=O u->K.lookup b=none:=λb u q=>(zK c q).1;have I:∀{b:À}{o:Ó}{es:Array ĳ}{ep:Nat},a.heap.get? b=O o->o.data=.dict es ep->gB K a.heap A b=none:=λ{b o es ep} e d=>by
  cases q:gB K a.heap A b with
  |none=>rfl
  |some u=>
   obtain⟨_,vs,_,_,⟨e2,_⟩|⟨e2,_⟩⟩:=zK c q
   .rw[e2]at e;cases e;have t:ϳ vs.toArray _=Data.dict es ep:=d;cases t
   .rw[e2]at e;cases e;have t:ϳ vs.toArray _=Data.dict es ep:=d;cases t
 generalize gB K a.heap A=H at p aF E G I;have a2:∀{b:À}{o:Ó},a.heap.get? b=O o->H b=U->(n0 a.heap H).get? b=O o:=λe n=>QO e n;have f:∀{b:À}{m:Ã->Option Á},a.heap.Ns b m->(n0 a.heap H).Ns b m:=λ{b m} ⟨o,es,ep,e,d,r⟩=>⟨o,es,ep,a2 e<|I e d,d,r⟩
 have nK:∀b o,K.lookup b=O o->H b=none:=λb o e=>by
  cases q:H b with
  |none=>rfl
  |some u=>
   rw[G b u q]at e;cases e
 have L:K.In (n0 a.heap H):=λb o e=>a2 (h b o e)<|nK b o e;have hM:Mod K mg (n0 a.heap H):=⟨L,f C,⟨g,f i,Q⟩,let⟨mc,h1,h2⟩:=S;⟨mc,f h1,h2⟩⟩
 have e0:re P w K mg (n0 a.heap H) υ [] a H:=⟨J,hM,λb o e=>QP e,FR<|QN _ _,dO,λb i=>absurd (show b∈([]:List À)from i) Gc,aF,.of_eq T⟩
 have hl:vals.length=ps.length:=zG j▸hlen;refine FT ((F _ L<|f C).run υ [] a H ⟨vals,[]⟩ vals (vals.map iJ) _ _ a1 e0 (W a vals hl) a3<|X H _ p E) λr s' x=>?_;cases r with
 |error e=>exact(Y H e s' x).elim
 |ok fl=>
  cases fl with
  |next|brk|cont=>exact ņ x
  |ret u=>
   obtain⟨v,H',os,fI,un,M,r',q⟩:=x;have cy:∀b o,a.heap.get? b=O o->s'.heap.get? b=O o:=λb o e=>by
    cases N:H b with
    |none=>exact un.keep b o e N (by intro z;exact absurd (show b∈([]:List À)from z) Gc) Gc
    |some u2=>
     rcases p b with z|⟨ob,u3,z⟩
     .rw[N]at z;cases z
     .have z2:=un.lg b ob _ z;obtain⟨a0,_⟩:=aF b _ z;obtain⟨e2,_⟩:=M b _ z2;rw[e]at a0;cases a0;exact e2
   have y:K.In s'.heap:=λb o e=>cy b o<|h b o e;obtain⟨as,ii⟩:=Dw.ol M y d0 v u q r';exact⟨u,as,J,ii,OldK.of_keep cy,os,fI⟩
def Ux(h:WData.layableAll ds=true):∀d∈ds,d.weight<=1048576:=λd hd=>(PySem.W.layableW_iff.mp<|dQ.mp h d hd).2.2
theorem J':∀(b:List Codec)(a:ϱ b),(τ b a).length=b.length
|[],_=>rfl
|c::b,a=>by show(τ b a.2).length+1=b.length+1;rw[J' b a.2]
def Uy{r}{k:Nat}{q:ò}{j:(Ã->Option Á)->á->Prop}{c:è->á->Prop}{d}{K:ŕ->Ñ}{CX:è->sV}{sp:è->Sp}(l:r.wellSaid=true) (T:d.params.defaults=[]) (hlen:r.args.length=ps.length) (m:cO k υ)(n:∀w h,c w h->(K w.params).In h)(F:∀w mg b h,c w h->(K w.params).In h->h.Ns î mg->mg d.name=O (.ref b)->∃fd,(∀s us,us.length=ps.length->ι s fd ⟨us,[]⟩ (ps.zip us))/\∀base,(K w.params).In base->base.Ns î mg->fY r.prog w (K w.params) mg base (CX w) k b fd ps (sp w))(p:∀w H xs a,wO H->Éi r.args a=true->Ϛ r.args r.asked a=true->kt (K w.params) H xs (τ r.args a)->sp w xs H (λv H'=>Dw (K w.params) H' v (r.ret.enc (Ϛ r.args r.f a))) λ_ _ _=>False)(t:∀w H s e s',CX w [] H s (λ_ _ _=>False) e s'->False):Éj q loose j c r d [] (λf vs=>Êa f vs):=by
 intro w gW x mg a1 G Y b o pm W doc dV kV X hd a3 hD y A args vals as B C ii D gr;obtain⟨a,E,e2⟩:=PySem.W.os_pre_some B;obtain⟨I,g⟩:=Codec.encAll_of_decAll r.args args a E;subst I;let i:=n w _ Y;obtain⟨fd,a2,L⟩:=F w mg b _ Y i G.T.g y;refine PySem.W.enter_call (FT (Uv (R:=[]) (cl:=classAt gW.heap) i G.T.g G.T.b G.T.builtins G.T.nolimit A D (J3 _ _) (Ux C) m L a2 (by rw[J'];exact hlen)
  (λH xs M N=>p w H xs a M g e2 N) λH e s'=>t w H x e s') λr' s' a0=>?_)
 obtain⟨u,P,rfl,h1,h2,Q,S⟩:=a0;exact⟨.inl ⟨u,_,P,J,λ_=>J,h1,(OpenSpec.post_iff l g _ _).mpr J,λz=>Ãb<|show false=true from z⟩,h2,Q,S⟩
def afx{r}{k:Nat}{q:ò}{g:(Ã->Option Á)->á->Prop}{b:è->á->Prop}{d}{K:ŕ->Ñ}{sp:Ñ->Sp}(i:r.wellSaid=true) (j:d.params.defaults=[]) (hlen:r.args.length=ps.length) (l:cO k υ)(m:∀w h,b w h->(K w.params).In h)(F:∀w mg c h,b w h->(K w.params).In h->h.Ns î mg->mg d.name=O (.ref c)->∃fd,(∀s us,us.length=ps.length->ι s fd ⟨us,[]⟩ (ps.zip us))/\∀base,(K w.params).In base->base.Ns î mg->fY r.prog w (K w.params) mg base CX k c fd ps (sp (K w.params)))(n:∀K H xs a,wO H->Éi r.args a=true->Ϛ r.args r.asked a=true->kt K H xs (τ r.args a)->sp K xs H (λv H'=>Dw K H' v (r.ret.enc (Ϛ r.args r.f a))) λ_ _ _=>False)(o:∀H s e s',CX [] H s (λ_ _ _=>False) e s'->False):Éj q loose g b r d [] (λf vs=>Êa f vs):=Uy i j hlen l m F (λw H xs a h1 h2 p t=>n (K w.params) H xs a h1 h2 p t) λ_ H s e s'=>o H s e s'
end
def bV(mg:Ã->Option Á)(x:Ã)(v:V):Prop:=∃u,mg x=O u/\bm v u
def bj(h:bV X.mg x v)(a:Gl X x:=by rfl)(hd:(x==("__debug__":Ã))=false:=by decide):PE X (.Name x pos) (tC v):=by obtain⟨u,b,r⟩:=h;exact QX a b r hd
inductive Ok(P:ò)(w:è)(K:Ñ)(mg:Ã->Option Á)(base:á)(k:Nat)(x:Ã)(ps:List Ã)(sp:Sp):Prop|m(f fd:_)(_:fY P w K mg base pd k f fd ps sp)(_:mg x=O (.ref f))(_:İ K (.ref f)=true)(_:jn K fd ps [])
inductive cX(P:ò)(w:è)(K:Ñ)(mg:Ã->Option Á)(base:á)(k:Nat)(C:À)(x:Ã)(ps:List Ã)(sp:Sp):Prop|m(f fd:_)(_:fY P w K mg base pd k f fd ps sp)(_:wp K C x f)(_:jn K fd ps [])
inductive qH(P:ò)(w:è)(K:Ñ)(mg:Ã->Option Á)(base:á)(k:Nat)(x:Ã)(C:À)(ps:List Ã)(sp:Sp):Prop|m(f fd:_)(_:fY P w K mg base pd k f fd ps sp)(_:mg x=O (.ref C))(_:Mk K C f)(_:jn K fd ps [])
section
variable {k:Nat} {t:TA}
def cl(G:Ok X.prog X.w X.K X.mg X.base k x ps sp)(a:cO k X.A)(b:Gl X x)(c:PA X (e::es) t)(d:(x==("__debug__":Ã))=false:=by decide)(he:Ð (e::es) X.ah=(false,Ï e X.ah)::Ð es X.ah:=by rfl) (dJ:(æ pos (Ð es X.ah)).any (·.1)=false:=by rfl):PE X (.Call (.Name x p) (e::es) [] pos) (rg sp [] E0 t):=by
 obtain⟨f,fd,F,g,hk,h⟩:=G;exact RU F a b g hk h .nil ur c d he dJ
def ml(he:PE X o ta)(c:g9 X.K C)(G:cX X.prog X.w X.K X.mg X.base k C m ps sp)(b:cO k X.A)(d:PA X (e::es) t)(g:Ð (e::es) X.ah=(false,Ï e X.ah)::Ð es X.ah:=by rfl) (dJ:(æ pos (Ð es X.ah)).any (·.1)=false:=by rfl)(h:Ï (.Call (.Attribute o m apos) (e::es) [] pos) X.ah=(do
   let a <-Ï o X.ah
   Ņ apos.atName
   let(f,first) <-ģ [a] (Ţ a m pl)
   μ pos f first (æ pos (Ð (e::es) X.ah)) (Ė pos (ė [] X.ah))):=by rfl):PE X (.Call (.Attribute o m apos) (e::es) [] pos) (oa C m sp [] E0 ta t):=by
 obtain⟨f,fd,F,i,j⟩:=G;exact RV he c i F b j .nil ur d g dJ h
def ml0(he:PE X o ta)(c:g9 X.K C)(G:cX X.prog X.w X.K X.mg X.base k C m ps sp)(b:cO k X.A)(d:Ï (.Call (.Attribute o m apos) [] [] pos) X.ah=(do
   let a <-Ï o X.ah;Ņ apos.atName;let(f,first) <-ģ [a] (Ţ a m pl);μ pos f first (æ pos (Ð [] X.ah)) (Ė pos (ė [] X.ah))):=by rfl):PE X (.Call (.Attribute o m apos) [] [] pos) (oa C m sp [] E0 ta dF):=by
 obtain⟨f,fd,F,e,g⟩:=G;exact RW he c e F b g .nil ur d
def vD(G:qH X.prog X.w X.K X.mg X.base k x C ps sp)(a:cO (k+1) X.A)(b:Gl X x)(c:PA X (e::es) t)(d:(x==("__debug__":Ã))=false:=by decide)(he:Ð (e::es) X.ah=(false,Ï e X.ah)::Ð es X.ah:=by rfl) (dJ:(æ pos (Ð es X.ah)).any (·.1)=false:=by rfl):PE X (.Call (.Name x p) (e::es) [] pos) (zd C sp [] E0 t):=by
 obtain⟨f,fd,F,g,M,h⟩:=G;exact RX M F a b g h .nil ur c d he dJ
def Ka(G:qH X.prog X.w X.K X.mg X.base k x C ps sp)(a:cO (k+1) X.A)(b:Gl X x)(c:(x==("__debug__":Ã))=false:=by decide):PE X (.Call (.Name x p) [] [] pos) (zd C sp [] E0 dF):=by
 obtain⟨f,fd,F,d,M,e⟩:=G;exact RY M F a b d e .nil ur c
end
def zN(a:cO k A):A.units+64<cLine:=a.units
def DH{vs:List Nat}(a:Nat->Hp->Prop)(n:a 0 (ab H1 D (.ae [])))(o:∀i c H,x.cps[i]?=O c->a i H->g (.str ⟨#[c]⟩) (bo z vs) H λd H2=>bo d vs=bo z vs/\tt d H2 λb f=>if b=true then te d f λy h=>∃acc,h D=O (.ae acc)/\acc.length<É/\a (i+1) (ab h D (.ae (acc++[y])))else a (i+1) f) (hd:∀H,a x.cps.size H->Qd H):∃W:Nat->Nat->Hp->Prop,(∃m,W 0 m (ab H1 D (.ae [])))/\∀i m H,W i m H->((nc x).stop i H/\Qd H)\/((nc x).go i H/\∃j:Hp->Prop,(∀H',j H'->∃k,k<m/\W (i+1) k H')/\∀y H',(nc x).fU i H y H'->g y (bo z vs) H' λd H2=>bo d vs=bo z vs/\tt d H2 λb f=>if b=true then te d f λy h=>∃acc,h D=O (.ae acc)/\acc.length<É/\j (ab h D (.ae (acc++[y])))else j f):=by
 refine⟨λi m H=>m=x.cps.size-i/\i<=x.cps.size/\a i H,⟨x.cps.size,Gc,cM _,n⟩,?_⟩;rintro i m H ⟨rfl,hi,p⟩;by_cases l:i<x.cps.size
 .refine .inr ⟨l,a (i+1),λH' q=>⟨x.cps.size-(i+1),Z,J,l,q⟩,λy H' F=>?_⟩;obtain⟨e,c,r,rfl⟩:=F;subst e;exact o i c _ r p
 .have e:i=x.cps.size:=Z;subst e;exact .inl ⟨aN _,hd H p⟩
def Kc{vs:List Nat}(c:Nat->Hp->Prop)(n:c 0 (ab H1 D (.ae [])))(o:∀i H,i<=xs.length->c i H->ao K H a xs)(r:∀i x H T,xs[i]?=O x->c i H->H T=U->g (.ref T) (bo z vs) (ab H T (.be [.int (i:Nat),x])) λd H2=>bo d vs=bo z vs/\tt d H2 λb f=>if b=true then te d f λy h=>∃acc,h D=O (.ae acc)/\acc.length<É/\c (i+1) (ab h D (.ae (acc++[y])))else c (i+1) f) (hd:∀H,c xs.length H->Qd H):∃W:Nat->Nat->Hp->Prop,(∃m,W 0 m (ab H1 D (.ae [])))/\∀i m H,W i m H->((qG K a).stop i H/\Qd H)\/((qG K a).go i H/\∃j:Hp->Prop,(∀H',j H'->∃k,k<m/\W (i+1) k H')/\∀x H',(qG K a).fU i H x H'->g x (bo z vs) H' λd H2=>bo d vs=bo z vs/\tt d H2 λb f=>if b=true then te d f λy h=>∃acc,h D=O (.ae acc)/\acc.length<É/\j (ab h D (.ae (acc++[y])))else j f):=by
 refine⟨λi m H=>m=xs.length-i/\i<=xs.length/\c i H,⟨xs.length,Gc,cM _,n⟩,?_⟩;rintro i m H ⟨rfl,hi,p⟩;have q:=o i H hi p;by_cases l:i<xs.length
 .refine .inr ⟨⟨xs,xs[i],q,by simp[l]⟩,c (i+1),λH' s=>⟨xs.length-(i+1),Z,J,l,s⟩,λx H' y=>?_⟩;obtain⟨T,F,rfl,t,rfl,u⟩:=y;exact r i F H T (u xs q) p t
 .have e:i=xs.length:=Z;subst e;exact .inl ⟨⟨xs,q,aN _⟩,hd H p⟩
def UB{tb:TS}{D:iS}(a:Nat->St->Hp->Prop)(j:a 0 z H)(k:∀i c z H,x.cps[i]?=O c->a i z H->g (.str ⟨#[c]⟩) z H λb H2=>tb {D with nx:=a (i+1),ct:=a (i+1),bk:=D.nx} b H2) (hd:∀z H,a x.cps.size z H->D.nx z H):∃W:Nat->Nat->St->Hp->Prop,(∃m,W 0 m z H)/\∀i m z H,W i m z H->((nc x).stop i H/\D.nx z H)\/((nc x).go i H/\∃N,(∀d H',N d H'->∃f,f<m/\W (i+1) f d H')/\∀y H',(nc x).fU i H y H'->g y z H' λb H2=>tb {D with nx:=N,ct:=N,bk:=D.nx} b H2):=by
 refine⟨λi m z H=>m=x.cps.size-i/\i<=x.cps.size/\a i z H,⟨x.cps.size,Gc,cM _,j⟩,?_⟩;rintro i m z H ⟨rfl,hi,p⟩;by_cases h:i<x.cps.size
 .refine .inr ⟨h,a (i+1),λd H' l=>⟨x.cps.size-(i+1),Z,J,h,l⟩,λy H' F=>?_⟩;obtain⟨e,c,n,rfl⟩:=F;subst e;exact k i c z _ n p
 .have e:i=x.cps.size:=Z;subst e;exact .inl ⟨aN _,hd z H p⟩
structure DK(P:ò)(w:è)(K:Ñ)(a:À)(ag:List (aL×V)):Prop where
 DJ:(a==Ĉ)=false
 ex:c4 λ(o:Ó)(es:Array ĳ)(ep:Nat)(vs:List (aL×Á))=>K.lookup a=O o/\o.ExactDict/\o.data=.dict es ep/\KeysOf (eV P w) es/\Pairs (eV P w) es.toList vs/\(vs.map (·.1)).Nodup/\KV ag vs
section
def DK.at(d:DK X.prog X.w X.K a ag)(I:ay X pins z H s):∃vs,KV ag vs/\s.heap.DictOf (eV X.prog X.w) a vs:=by obtain⟨o,es,ep,vs,hk,b,hd,h1,h2,c,r⟩:=d.ex;exact⟨vs,r,o,es,ep,I.iE a o hk,b,hd,h1,h2,c⟩
inductive UC'(P:ò)(w:è)(K:Ñ)(Q:VK)(x:V)(y:V)(H2:Hp):Prop|m(a ag k v:_)(_:x=.ref a)(_:DK P w K a ag)(_:y=kV k)(_:bT ag k=O v)(_:Q v H2)
def UC(P:ò)(w:è)(K:Ñ)(td ty:TE):TE:=λz H Q=>td z H λx H1=>ty z H1<|UC' P w K Q x
inductive UD'(P:ò)(w:è)(K:Ñ)(Q:VK)(y:V)(x:V)(H2:Hp):Prop|m(a ag k:_)(_:x=.ref a)(_:DK P w K a ag)(_:y=kV k)(_:Q (.bl (bT ag k).isSome) H2)
def UD(P:ò)(w:è)(K:Ñ)(ty td:TE):TE:=λz H Q=>ty z H λy H1=>td z H1<|UD' P w K Q y
inductive DL'(P:ò)(w:è)(K:Ñ)(Q:VK)(y:V)(x:V)(H2:Hp):Prop|m(a ag k:_)(_:x=.ref a)(_:DK P w K a ag)(_:y=kV k)(_:Q (.bl<|!(bT ag k).isSome) H2)
def DL(P:ò)(w:è)(K:Ñ)(ty td:TE):TE:=λz H Q=>ty z H λy H1=>td z H1<|DL' P w K Q y
variable {i:â} {ty:TE}
def uu(e:PE X o td)(hi:PE X i ty)(f:Dm i:=by exact λ_ _=>rfl):PE X (.Subscript o i pos) (UC X.prog X.w X.K td ty):=λpins s z H Q I h=>by refine Jl ae8.lookup f<|aM (e pins s z H _ I h) λu g ⟨x,H1,j,rx,m⟩=>aM (hi pins g z H1 _ j m) λt w q0=>?_;obtain⟨y,H2,b,ry,a,ag,k,v,ex,d,n,l,p⟩:=q0;subst ex n;obtain rfl:u=ç a:=rx;obtain⟨vs,cQ,c⟩:=d.at b;obtain⟨F,q,r⟩:=gx.zc<|l▸cQ.val k;exact⟨c.typeIs,Çe (kq ry) c.mapOf q ⟨v,H2,b.cN _,r,p⟩⟩
def UE(hi:PE X i ty)(c:PE X o td):PC X .In i o (UD X.prog X.w X.K ty td):=λpins s z H Q I h=>aM (hi pins s z H _ I h) λn e ⟨y,H1,f,ry,g⟩=>aM (c pins e z H1 _ f g) λu p ⟨x,H2,b,rx,a,ag,k,ex,d,j,l⟩=>by subst ex j;obtain rfl:u=ç a:=rx;obtain⟨vs,cQ,m⟩:=d.at b;refine wpAny_in_of (kq ry) d.DJ m.mapOf ?_;exact(cQ.val k).rq▸⟨.bl _,H2,b.cN _,J,l⟩
def zO(hi:PE X i ty)(c:PE X o td):PC X .NotIn i o (DL X.prog X.w X.K ty td):=λpins s z H Q I h=>aM (hi pins s z H _ I h) λn e ⟨y,H1,f,ry,g⟩=>aM (c pins e z H1 _ f g) λu p ⟨x,H2,b,rx,a,ag,k,ex,d,j,l⟩=>by subst ex j;obtain rfl:u=ç a:=rx;obtain⟨vs,cQ,m⟩:=d.at b;refine wpAny_notIn_of (kq ry) d.DJ m.mapOf ?_;exact(cQ.val k).rq▸⟨.bl _,H2,b.cN _,J,l⟩
end
section
variable {k:Nat} {t:TA}
inductive Fv(P:ò)(w:è)(K:Ñ)(mg:Ã->Option Á)(base:á)(k:Nat)(f:À)(sp:Sp):Prop|m(fd ps:_)(_:fY P w K mg base pd k f fd ps sp)(_:İ K (.ref f)=true)(_:jn K fd ps [])
inductive tCv'(P:ò)(w:è)(K:Ñ)(mg:Ã->Option Á)(base:á)(k:Nat)(t:TA)(z:St)(Q:VK)(v:V)(H1:Hp):Prop|m(f sp:_)(_:v=.ref f)(_:Fv P w K mg base k f sp)(_:t z H1 λvs H2=>sp (vs++[]) H2 Q E0)
def tCv(P:ò)(w:è)(K:Ñ)(mg:Ã->Option Á)(base:á)(k:Nat)(ta:TE)(t:TA):TE:=λz H Q=>ta z H<|tCv' P w K mg base k t z Q
def cv(k:Nat)(b:cO k X.A)(c:PE X (.Name x p) ta)(d:PA X (e::es) t)(he:Ð (e::es) X.ah=(false,Ï e X.ah)::Ð es X.ah:=by rfl)(dJ:(æ pos (Ð es X.ah)).any (·.1)=false:=by rfl):PE X (.Call (.Name x p) (e::es) [] pos) (tCv X.prog X.w X.K X.mg X.base k ta t):=λpins s z H Q I h=>by
 refine u_<|aM (c pins s z H _ I h) λu g q0=>?_;obtain⟨v,H1,i,j,f,sp,l,G,m⟩:=q0;subst l;obtain rfl:u=ç f:=j;obtain⟨fd,ps,F,hk,n⟩:=G;refine FU I.ok.mod.vp hk (aM (d pos pins g z H1 _ i m) λus o ⟨vs,H2,a,r,q⟩=>⟨a.iE,?_⟩) he dJ;exact ze F b n .nil ur a r q
end
abbrev vE(d:Á):List (Ã×Á):=[(ę "default",d)]
def UF(a d:Á):χ "max" ⟨[a],vE d⟩:=by kernel_rfl
section
variable {P:Nat->Á->Prop} {St:Nat->á->Prop}
def zP:(toString "max"++toString ".loop":String)="max.loop":=by decide
abbrev UG(v:Á)(c:Nat):Obj:={cls:=.type "list",dict:=U,data:=.seq #[v,v] c,slots:=#[]}
def UH(W:Walks prog w A.in1 I fp wr n P St)(f:Nat->Nat->Bool)(x:CmpOf prog w A.in1 .Gt P f){S:À}(m:S∉fp)(d:Á):∀left at_ s best c,n-(at_+1)=left->at_+1<=n->St (at_+1) s.heap->P (Ŭ f at_) best->s.heap.get? S=O (UG best c)->(∀v h' tk,P (Ŭ f (n-1)) v->(∀b o,b∉wr->b≠S->s.heap.get? b=O o->h'.get? b=O o)->R (.ok (.ret v)) {s with heap:=h',toks:=tk})->ŏ (Í prog w) A (.builtin "max.loop" ⟨[.ref I,.none,.ref S],vE d⟩) R s:=by
 have p:S∉wr:=λz=>m<|W.sub _ z;intro left
 induction left with
 |zero=>
  intro at_ s best c y e2 st j h fin;have q:at_+1=n:=Z;refine OE OF (by
   rw[OG vi _];refine aA<|su h J ?_;refine aA<|Bt<|W.done s _ _ (q▸st) λh' tk kp=>?_;have i:=kp S _ p h;refine aA<|F' i J<|aA<|xJ<|bc ?_;exact fin best _ tk (q▸j) λb o a g e=>(qy _ _<|cB g).trans<|kp b o a e)
 |succ left r=>
  intro at_ s best c y e2 st j h fin;have lt:at_+1<n:=Z;refine OE OF (by
   rw[OG vi _];refine aA<|su h J ?_;show Ç _ A.in1 (tryCatch (ĉ<|.ref I) _ >>=_) _ _ s;refine aA<|Bt<|W.item (at_+1) s _ _ lt st λv h' tk pv t kp=>?_;have i:=kp S _ p h;show Ç _ A.in1 (tryCatch (ģ [v,v]<|richCompare .Gt v best >>=_) _ >>=_) _ _ _;refine aA<|Bt<|oI<|aA<|x (at_+1) (Ŭ f at_) v best _ _ _ pv j ?_;refine aA<|oI<|lX<|aA<|xJ<|bc ?_;cases u:f (at_+1) (Ŭ f at_)with
   |true=>
    simp only[fi];refine aA<|F' i J<|aA<|xJ ?_;rw[zP];refine bc ⟨Ga vi _,r (at_+1) _ v _ Z lt (W.frame _ _ _ t λb B o e=>?_) (by simp only[Ŭ,u,fi];exact pv) (xC _ i J) λk h2 l p2 k2=>?_⟩
    .exact(qy _ _ λz:S=b=>m (z▸B)).trans e
    .exact fin k h2 l p2 λb o a g e=>k2 b o a g<|(qy _ _<|cB g).trans<|kp b o a e
   |false=>
    simp only[oK,i'];refine aA<|xJ ?_;rw[zP];exact bc ⟨Ga vi _,r (at_+1) _ best c Z lt t (by simp only[Ŭ,u,oK,i'];exact j) i λk h2 l p2 k2=>fin k h2 l p2 λb o a g e=>k2 b o a g<|kp b o a e⟩)
def UI(W:Walks prog w A.in1 I fp wr n P St)(f:Nat->Nat->Bool)(m:CmpOf prog w A.in1 .Gt P f){S:À}(g:S∉fp)(d:Á){c:Nat}(st:St 0 s.heap)(i:s.heap.get? S=O {cls:=.type "list",dict:=U,data:=.seq #[] c,slots:=#[]})(fin:∀v h' tk,((0<n/\P (Ŭ f (n-1)) v)\/(n=0/\v=d))->(∀b o,b∉wr->b≠S->s.heap.get? b=O o->h'.get? b=O o)->R (.ok (.ret v)) {s with heap:=h',toks:=tk}):ŏ (Í prog w) A (.builtin "max.loop" ⟨[.ref I,.none,.ref S],vE d⟩) R s:=by
 let p:S∉wr:=λz=>g<|W.sub _ z;refine OE OF (by
  rw[OG vi _];refine aA<|su i J ?_;by_cases h:0<n
  .refine aA<|Bt<|W.item 0 s _ _ h st λv h' tk pv q kp=>?_;let j:=kp S _ p i;show Ç _ A.in1 (updateSeq S (λ_=>#[v,v])>>=_) _ _ _;refine aA<|F' j J ?_;rw[zP];refine bc ⟨Ga vi _,UH W f m g d _ 0 _ v _ J h (W.frame _ _ _ q λb r o e=>?_) pv (xC _ j J) λt h2 u p2 k2=>?_⟩
   .exact(qy _ _ λz:S=b=>g (z▸r)).trans e
   .exact fin t h2 u (.inl ⟨h,p2⟩) λb o a k e=>k2 b o a k<|(qy _ _<|cB k).trans<|kp b o a e
  .let l:n=0:=Z;refine aA<|Bt<|W.done s _ _ (l▸st) λh' tk kp=>?_;refine aA<|Gb ?_;exact bc<|fin d h' tk (.inr ⟨l,J⟩) λb o a _ e=>kp b o a e)
end
section
variable {xs:Array (Int×í)}
def UJ(d:Á):Êb "max" ["key","default"] 0 ⟨[],vE d⟩=pure [U,O d]:=by kernel_rfl
def UK{d:Á}(f:A.handled=U)(g:s.heap.IsList l (Δ xs))(h:∀v h' tk,((0<xs.size/\(Δ xs)[Ŭ (λi j=>decide (numAt xs i > numAt xs j)) (xs.size-1)]?=O v)\/(xs.size=0/\v=d))->(∀b o,s.heap.get? b=O o->h'.get? b=O o)->Q v {s with heap:=h',toks:=tk}):Ç (Í prog w) A (call (.builtin "max") [.ref l] (vE d)) Q E s:=by
 refine Òd F.kind_max F.plain_max F.entry_max (UF _ d) ?_;refine aA<|xF (UJ d)<|aA<|bc<|aA<|iter_intList g λp e st k a=>?_;subst e;let W:=Âg (prog:=prog) (w:=w) (A:=A.in1) f _ l a<|Δ xs;let sz:(Δ xs).size=xs.size:=by simp[Δ]
 refine aA<|lZ ?_;rw[zP];refine bc ⟨Ga vi _,UI W _ (CmpOf.ints_gt (numAt xs) λ_ _=>intItems_at) (λm=>lW _<|k _ m) d (W.frame _ _ _ st λb _ o e=>b_ _ e) (c7 _ J) λv h' tk c hk=>?_⟩;rw[sz]at c;exact h v h' tk c<|old_kept λb o n e=>hk b o n (gm<|cG e)<|b_ _ e
end
inductive UL(K:Ñ)(vs:List V)(H:Hp)(Q:VK):Prop|m(a ns:_)(_:vs=[V.ref a])(_:ao K H a (ns.map V.int))(_:∀m,((ns=[]/\m=0)\/(m∈ns/\∀y,y∈ns->y<=m))->Q (.int m) H)
def UM(K:Ñ)(t:TA):TE:=λz H Q=>t z H λvs H1=>UL K vs H1 Q
section
variable {t:TA}
def UN(k:X.mg "max"=U)(l:PA X [e] t)(m:X.gf=true:=by rfl)(n:Gl X "max":=by rfl)(he:æ pos (Ð [e] X.ah)=(false,Ï e X.ah)::æ pos (Ð [] X.ah):=by rfl)(dJ:(æ pos (Ð [e] X.ah)).any (·.1)=false:=by rfl):PE X (.Call (.Name "max" p) [e] [⟨O "default",.Constant (.int 0) j cp,kp⟩] pos) (UM X.K t):=by
 intro pins s z H Q I h;refine u_<|n8 I n k boot_max (Òe (hplain:=dJ) (he:=he)<|aM (l pos pins s z H _ I h) λus o ⟨vs,H1,r,u,w⟩=>?_);obtain⟨a,ns,x,a1,q⟩:=w;subst x;rw[aX.wz u];refine aM (R0 aG RZ pos pins o z H1 (λzs H2=>zs=[.int 0]/\H2=H1) r ⟨J,J⟩) λF G q0=>?_;obtain ⟨zs,H2,b,A,B,e2⟩:=q0;subst B e2;obtain⟨aD,C,c,_⟩:=b.list a1;have hi:=C.ints;obtain⟨xs,ex⟩:=hi.allInts.items;have g:numsOf (Δ xs).toList=ns:=ex▸hi.numsOf;rw[nums_intItems]at g;subst g;have c:=c.isList;rw[ex]at c;cases A with
 |cons rd D=>
  cases D;obtain⟨a0,rfl⟩:=rd;refine UK (b.ok.hd m) c λv h' tk d hk=>?_;rcases d with⟨cu,d⟩|⟨h0,rfl⟩
  .obtain⟨t',rfl⟩:=intItems_at d;obtain⟨h1,h2⟩:=argBest_gt (numAt xs)<|xs.size-1;refine⟨.int _,H2,b.cy hk,⟨_,J⟩,q _<|.inr ⟨?_,λy E=>?_⟩⟩
   .rw[numAt_eq];exact PySem.getD_mem (by rw[aK,qw];omega)
   .obtain⟨i,f,rfl⟩:=mem_getD E;rw[aK,qw]at f;rw[<-numAt_eq];exact h2 i Z
  .refine⟨.int 0,H2,b.cy hk,⟨_,J⟩,q 0<|.inl ⟨?_,J⟩⟩;have:xs=#[]:=Array.eq_empty_of_size_eq_zero h0;subst this;rfl
end
theorem gC{α:Type}:∀{l:List α}{i:Nat}{x:α},l[i]?=O x->l.take (i+1)=l.take i++[x]
|[],i,x,h=>by simp at h
|a::l,0,x,h=>by cases h;rfl
|a::l,i+1,x,h=>by show a::l.take (i+1)=a::l.take i++[x];rw[gC (l:=l) (i:=i) (x:=x) h];rfl
section
variable {k:Nat}
def aa.ab{o:HO}(h:H D=U):aa H (ab H D o):=λb u e=>by rw[au<|bv e h];exact e
def aa.be(e:aa H H')(h:aV K H a xs):aV K H' a xs:=by
 rcases h with(h|⟨o,h⟩)|h
 .exact .inl<|.inl<|e _ _ h
 .exact .inl<|.inr ⟨o,e _ _ h⟩
 .exact .inr h
end
def UO(a:X.K=K)(he:PE X e ta)(b:Ċ e f X.ah (Ï e X.ah)=Ï e X.ah):PE X (.Attribute e f pos) (wq K ta f):=by subst a;exact Iu he b
def UP(a:X.K=K):dS X (ó .In) (BR K false):=by subst a;exact jJ
def UQ(a:X.K=K):dS X (ó .NotIn) (BR K true):=by subst a;exact IM
def Kd(a:X.K=K):vA X (wv K):=by subst a;exact IJ
def UR(a:X.K=K):vA X (C7 K):=by subst a;exact IK
def US(a:X.K=K):io X (.builtin "len") (λxs H Q=>c2 λp ys=>xs=[.ref p]/\(ao K H p ys\/aV K H p ys)/\Q (.int ys.length) H):=by subst a;exact IN
def UT:iI X "str.startswith" (λx xs H Q=>c3 λa b i=>x=.str a/\xs=[.str b,.int i]/\Q (.bl (ϛ a b i)) H):=λpins s z H x xs v us Q I rx rs h=>by
 obtain⟨a,b,i,rfl,rfl,h⟩:=h;obtain⟨t,rfl⟩:=rx;cases rs with
 |cons c rs=>
  cases rs with
  |cons d rs=>cases rs;obtain⟨u,rfl⟩:=c;obtain⟨a0,rfl⟩:=d;exact call_gives Êc (jY _ _ _) F.entry_str_startswith (F.args_str_startswith_3 _ _ _) (gives_str_startswith_from a b i t u a0) ⟨.bl _,H,I,J,h⟩
def Ke:iI X "str.index" (λx xs H Q=>c4 λa b i r=>x=.str a/\xs=[.str b]/\Ū a b 0 a.length 1=i::r/\Q (.int (i:Nat)) H):=λpins s z H x xs v us Q I rx rs h=>by
 obtain⟨a,b,i,r,rfl,rfl,e,h⟩:=h;obtain⟨t,rfl⟩:=rx;cases rs with
 |cons c rs=>cases rs;obtain⟨u,rfl⟩:=c;exact call_gives F.slot_str_index (jY _ _ _) F.entry_str_index (F.args_str_index_2 _ _) (gives_str_index a b t u i r e) ⟨.int _,H,I.cN _,⟨_,J⟩,h⟩
def UU:iI X "str.split" (λx xs H Q=>c3 λa b k=>x=.str a/\xs=[.str b,.int (k:Nat)]/\(b.length==0)=false/\k<=1000/\a.length+2<=É/\wL (Ŗ a b (k:Nat)) H Q):=λpins s z H x xs v us Q I rx rs h=>by
 obtain⟨a,b,k,rfl,rfl,d,f,j,h⟩:=h;obtain⟨t,rfl⟩:=rx;cases rs with
 |cons g rs=>
  cases rs with
  |cons i rs=>
   cases rs;obtain⟨u,rfl⟩:=g;obtain⟨F,rfl⟩:=i;have hk:(decide (k < -(2^63:Int))||decide ((k:Int)>=2^63))=false:=by rw[Óf];exact⟨bO Z,bO Z⟩
   have e:(ϯ a (Ū a b 0 a.length<|ŭ a k) b.length).length<=sizeLine:=by
    have m:=Éb a b 0 a.length<|ŭ a k;have e2:ŭ a k<=k:=by unfold ŭ;split<;>lia
    have n:=bn;rw[Éc];lia
   have c:(Ŗ a b k).length<=sizeLine:=by
    unfold Ŗ;split
    .show 1<=É;lia
    .split
     .show 1<=É;lia
     .exact e
   cases h1:(decide (a.length<b.length)||decide (Ě a<Ě b))
   .cases hf:(Ū a b 0 a.length<|ŭ a k).isEmpty
    .refine l5 sr (jY _ _ _) xH (OI _ _ _) (meets_str_split_sep_max a b k t u F hk h1 d hf Z e) ?_;rw[strsFrom_eq];exact uo I ((numbered_texts _ _).trans ((ai<|xI h1).trans<|ai<|xI hf).symm) c h
    .exact l5 sr (jY _ _ _) xH (OI _ _ _) (meets_str_split_max_not_found a b k t u F hk h1 d hf) (uo (l:=[(a,t)]) I ((ai<|xI h1).trans<|aj hf).symm c h)
   .exact l5 sr (jY _ _ _) xH (OI _ _ _) (meets_str_split_max_cannot_occur a b k t u F hk h1) (uo (l:=[(a,t)]) I (aj h1).symm c h)
section
variable {t:TA}
def UV(c:PE X o to)(d:PA X [e,e2] t)(f:Ċ o "startswith" X.ah (Ï o X.ah)=Ï o X.ah:=by rfl)(g:((æ cf (Ð [e,e2] X.ah)).all (λx=>!x.1)&&(Ė cf (ė [] X.ah)).all (λx=>x.1.isSome)
   &&decide ([e,e2].length+([]:List Ę).length+(if([]:List Ę).isEmpty then 0 else 1)<30))=true:=by rfl)(h:(apos.endLine==cf.line)=true:=by rfl) (j:Ð [e,e2] X.ah=(false,Ï e X.ah)::Ð [e2] X.ah:=by rfl) (hplain:(æ cf (Ð [e2] X.ah)).any (·.1)=false:=by rfl):PE X (.Call (.Attribute o "startswith" apos) [e,e2] [] cf) (sY X.K "str" (λx xs H Q=>c3 λa b i=>x=.str a/\xs=[.str b,.int i]/\Q (.bl (ϛ a b i)) H) to t):=pO F9 Êc F.type_str_startswith UT c d f g h j hplain
def UW(c:PE X o to)(d:PA X [e,e2] t)(f:Ċ o "split" X.ah (Ï o X.ah)=Ï o X.ah:=by rfl)(g:((æ cf (Ð [e,e2] X.ah)).all (λx=>!x.1)&&(Ė cf (ė [] X.ah)).all (λx=>x.1.isSome)
   &&decide ([e,e2].length+([]:List Ę).length+(if([]:List Ę).isEmpty then 0 else 1)<30))=true:=by rfl)(h:(apos.endLine==cf.line)=true:=by rfl) (i:Ð [e,e2] X.ah=(false,Ï e X.ah)::Ð [e2] X.ah:=by rfl) (hplain:(æ cf (Ð [e2] X.ah)).any (·.1)=false:=by rfl):PE X (.Call (.Attribute o "split" apos) [e,e2] [] cf) (sY X.K "str" (λx xs H Q=>c3 λa b k=>x=.str a/\xs=[.str b,.int (k:Nat)]/\(b.length==0)=false/\k<=1000/\a.length+2<=É/\wL (Ŗ a b (k:Nat)) H Q) to t):=pO F9 sr Ée UU c d f g h i hplain
end
def Kf{t}(a:X.K=K)(b:X.gf=true)(h:xU X es t)(c:(Š es X.ah).length=n:=by rfl) (d:(Š es X.ah).findIdx? (·.1)=none:=by rfl):PG X (.Tuple es k pos) (HQ K n t):=by
 subst a;exact CN b h c d
open PySem PyProof.Rows
def Kg:mroOf (.type "reversed")=pure [.type "reversed",.type "object"]:=by rw[mroOf_type];kernel_rfl
def UX:ξ (.type "reversed") "__new__"=pure (O (.builtin "reversed.__new__")):=by rw[Bu,Bv];kernel_rfl
def UY:Ĳ "reversed" "__init__" "object.__init__":=Ãd (owner:="object") (n:="__init__") (by rw[Bu,Bv];kernel_rfl)
  OH OH OH
  (by first
    |exact .inl OH
    |exact .inr OH)
  (by rw[Bw];kernel_rfl)
def Kh:ϴ (.type "reversed") (.type "reversed")=pure true:=by rw[Bw];kernel_rfl
def UZ:TypeCalled "reversed" "reversed.__new__" "object.__init__" where
 notType:=by decide+kernel
 canCreate:=OH
 mro:=⟨_,_,Kg⟩;made:=madeBy_type Kg UX OH;plain:=OH
 sub:=Kh;init:=UY
def U0(a:Á):checkTypeCall "reversed" ⟨[a],[]⟩=pure ():=by kernel_rfl
def U1(a:Á):checkBuiltinCall "reversed.__new__" ⟨[.type "reversed",a],[]⟩=pure ():=by kernel_rfl
def U2:entryFor table "reversed.__new__"=O Ē.«reversed.__new__»:=Êd (by kernel_rfl)
def U3:ξ (.type "tuple") "__reversed__"=pure none:=by rw[Bu,Bv];kernel_rfl
def U4:ϴ (.type "tuple") (.type "dict")=pure false:=by rw[Bw];kernel_rfl
def Ki:Manifest.owners.lookup (String.ofList ['d','e','s','r','e','v','e','r'].reverse)=O Manifest.sig_reversed:=by kernel_rfl
def DN:Ĳ "reversed" "__next__" "reversed.__next__":=Ãd (owner:="reversed") (n:="__next__") (by rw[Bu,Bv];kernel_rfl)
  OH OH OH
  (by first
    |exact .inl OH
    |exact .inr OH)
  (by rw[Bw];kernel_rfl)
def Kj:entryFor table "reversed.__next__"=O Ē.«reversed.__next__»:=Êd (by kernel_rfl)
def Kk(a:Á):χ "reversed.__next__" ⟨[a],[]⟩:=by unfold χ;rw[signature?_of (n:=['_','_','t','x','e','n','_','_']) (by kernel_rfl) Ki];kernel_rfl
def U5:Ĳ "reversed" "__iter__" "reversed.__iter__":=Ãd (owner:="reversed") (n:="__iter__") (by rw[Bu,Bv];kernel_rfl)
  OH OH OH
  (by first
    |exact .inl OH
    |exact .inr OH)
  (by rw[Bw];kernel_rfl)
def U6(a:Á):χ "reversed.__iter__" ⟨[a],[]⟩:=by unfold χ;rw[signature?_of (n:=['_','_','r','e','t','i','_','_']) (by kernel_rfl) Ki];kernel_rfl
def U7:entryFor table "reversed.__iter__"=O Ē.«dict_keyiterator.__iter__»:=entryFor_alias (id':="dict_keyiterator.__iter__") (by kernel_rfl)
  (by first
    |rfl
    |decide+kernel
    |(unfold String.splitOn
      simp+decide [String.splitOnAux]))
  OH (by kernel_rfl)
def Km(t:À)(i:Int):Obj:={cls:=.type "reversed",data:=.fields #[.ref t,Č i]}
def mB(h:á)(a t:À)(i:Int):Prop:=∃o,h.get? a=O o/\o.cls=.type "reversed"/\o.data=.fields #[.ref t,Č i]
def mB.ty{i:Int}(x:mB s.heap a t i):s.TypeIs (.ref a) "reversed":=by obtain⟨o,b,c,_⟩:=x;exact⟨o,b,c⟩
def mB.mv{i:Int}(x:mB h a t i)(e:∀o,h.get? a=O o->h'.get? a=O o):mB h' a t i:=by obtain⟨o,b,r⟩:=x;exact⟨o,e _ b,r⟩
def U8(t:À)(items:Array Á):Meets (Ē.«reversed.__new__» ⟨[.type "reversed",.ref t],[]⟩) (λ_ R s=>ŝ s.heap t items/\(items.size:Int)<2^63/\∀tk,R (.ok (.ret (.ref s.heap.objs.size))) {s with heap:=s.heap.push (Km t ((items.size:Int)-1)),toks:=tk}):=
 .of_wp λprog w A R s h=>by obtain⟨a,d,h⟩:=h;let k1:=Kh;let k2:=U3;let e:=U4;let f:ξ (.type "tuple") (ę "__getitem__")=pure (O<|.builtin "tuple.__getitem__"):=Êe.lookup;let g:=a.typeIs;obtain⟨⟨c,i,dt,sl⟩,j,b,n,hd⟩:=id a;simp only at b hd;subst b hd;unfold Ē.«reversed.__new__»;wp_walk using len_tuple a d;exact⟨_,J,h _⟩
def U9(a:ŝ s.heap t items)(hz:(items.size:Int)<2^63)(h:∀tk,Q (.ref s.heap.objs.size) {s with heap:=s.heap.push (Km t ((items.size:Int)-1)),toks:=tk}):Ç (Í prog w) A (call (.type "reversed") [.ref t]) Q E s:=by
 refine callType_new UZ gn (U0 _) (U1 _) (λobj=>F.args_object_init_2 obj _) U2 (U8 t items) ⟨a,hz,λtk=>?_⟩;exact⟨⟨_,c7 _ J,J⟩,h tk⟩
def U_{x:Á}{Q:Option Á->Ì->Prop}(b:mB s.heap it t (i:Int))(e:ŝ s.heap t items)(d:items[i]?=O x)(hz:(items.size:Int)<2^62)(ne:it≠t)(h:∀h' tk,mB h' it t ((i:Int)-1)->Ĩ it s.heap h'->Q (O x) {s with heap:=h',toks:=tk}):Ç (Í prog w) A (ĉ (.ref it)) Q E s:=by
 obtain⟨o,c,k,hd⟩:=id b;have n:i<items.size:=by
  by_cases z:i<items.size
  .exact z
  .rw[F6 Z]at d;cases d
 have f:Ĳ "reversed" "__next__" "reversed.__next__":=DN;refine aA<|ve ?_;refine va b.ty f ?_;refine mO f b.ty Kj ?_<|Kk _;unfold Ē.«reversed.__next__»;have l:ξ (.type "tuple") (ę "__getitem__")=pure (O<|.builtin "tuple.__getitem__"):=Êe.lookup;have g:¬((i:Int)<0):=Z;have m:Ϫ i items.size=O i:=by
  unfold Ϫ;simp only[g,i'];first
   |(rw[aj Z];rfl)
   |(simp;lia)
 refine aA<|xF J ?_;refine aA<|ja c hd J ?_;refine aA<|ja c hd J ?_;show Ç _ _ (if(i:Int)<0 then _ else _) _ _ s;rw[ai g];refine aA<|Çf e.typeIs l ?_;rw[ai gn];refine aA<|wpAny_mkInt ?_;refine aA<|ve<|getItem_tuple e Z Z m d ?_;refine aA<|ja c hd J ?_;refine aA<|Bp c hd Gc ?_;refine bc ⟨x,J,bc<|h _ _ ?_<|Oy ..⟩;refine⟨_,xC _ c<|Ox<|xE hd _,?_,?_⟩
 .exact(Èf ..).trans k
 .rw[xE hd];simp
def U'{Q:Option Á->Ì->Prop}(j:A.handled=U)(c:mB s.heap it t (-1))(k:∀h',Âi it s.heap h'->Q U {s with heap:=h'}):Ç (Í prog w) A (ĉ (.ref it)) Q E s:=by
 obtain⟨o,d,p,hd⟩:=id c;let h:Ĳ "reversed" "__next__" "reversed.__next__":=DN;refine aA<|ve ?_;refine va c.ty h ?_;refine mO h c.ty Kj ?_<|Kk _;refine aA<|xF J ?_;refine aA<|ja d hd J ?_;refine aA<|ja d hd J ?_;show Ç _ _ (if(-1)<0 then _ else _) _ _ s;rw[aj gn];refine aA<|Gb ?_;refine aA<|aA<|Bp d hd Gc ?_;let g:=xC (λo=>o.mapFields (·.setIfInBounds 1<|Č (-1))) d<|Ox<|xE hd _;refine Bp g (xE hd _) Gc ?_;let l:∀b,b≠it->∀ob,s.heap.get? b=O ob->(((s.heap.update it λo=>o.mapFields (·.setIfInBounds 1<|Č (-1))).update it λo=>o.mapFields (·.setIfInBounds 0 į))).get? b=O ob:=λb f ob e=>by rw[qy _ _<|cB f,qy _ _<|cB f];exact e
 let n:A.in1.handled=none:=j;refine aA<|aA ?_;refine aA<|lZ ?_ (by size_fits);refine aA (xF (a:=į) ?_ ?_)
 .first
   |rfl
   |(simp only[ϭ]
     rfl)
 refine lZ ?_ (by size_fits);refine aA<|wpAny_handled ?_;rw[n];refine aA<|bc ?_;refine wpAny_throw ?_;let ty:ϴ (.type "StopIteration") (.type "StopIteration")=pure true:=OA;refine aA<|Oz ⟨_,c7 _ J,J⟩ ty ?_;refine bc<|k _ ?_;intro b ob f e;exact b_ _<|b_ _<|l b f ob e
def Kn{i:Int}(a:mB s.heap it t i)(h:Q (.ref it) s):Ç (Í prog w) A (š (.ref it)) Q E s:=by
 let b:Ĳ "reversed" "__iter__" "reversed.__iter__":=U5;refine Ot a.ty b<|mO b a.ty U7 ?_<|U6 _;refine bc ⟨_,J,"reversed",_,a.ty,DN.lookup,h⟩
inductive Va(x:V)(vs:List V)(H:Hp)(Q:VK):Prop|m(l b xs zs:_)(_:x=.ref l)(_:vs=[.ref b])(_:H l=O (.ae xs))(_:H b=O (.be zs))(_:xs.length+zs.length<=É)(_:Q .aQ (ab H l<|.ae (xs++zs)))
def yj(K:Ñ)(a:À)(n:Nat):It:=⟨λi H=>i<n/\c2 λxs x=>aV K H a xs/\xs[n-1-i]?=O x,λi H x H'=>H'=H/\∀xs,aV K H a xs->xs[n-1-i]?=O x,λi _=>n<=i⟩
def Vb(a it:À)(n:Nat):jI P w K tg (yj K a n) [it] it (λi h=>i<=n/\mB h it a ((n:Int)-1-(i:Nat))) where
 mem:=by simp
 obj:=λi h st b g=>by
  have e:b=it:=by simpa using g
  subst e;have⟨_,o,e,c,d⟩:=st;exact⟨o,e,λv a4=>by rw[d]at a4;cases a4⟩
 keep:=λi h h' st k=>⟨st.1,st.2.mv λo e=>k it Gc o e⟩
 item:=by
  intro X j l m G i pins s z H E I hf st q;subst j l m;refine gg λP0 p0=>?_;have⟨a2,xs,x,L,M⟩:=q;have⟨aD,N,p,a0⟩:=I.tuple L;have⟨u,R,S⟩:=N.get M;have⟨r,t,T,y,B,C⟩:=hf it Gc;have⟨_,f⟩:=st;refine p0 ?_;have hlen:=N.length;have hn:=mw;have D:(n:Int)-1-((i:Nat))=((n-1-i:Nat):Int):=Z;rw[D]at f;have ne:it≠a:=λa4=>by
   have⟨o1,k1,k2,_⟩:=f;have⟨o2,a1,V,_⟩:=p;rw[a4,a1]at k1;cases k1;rw[V]at k2;exact absurd k2 gn
  refine U_ f p (by simpa using R) (by rw[cx,<-hlen];rw[bn]at a0;omega) ne λh' tk F W=>?_;have e2:((n-1-i:Nat):Int)-1=(n:Int)-1-((i+1:Nat)):=Z;rw[e2]at F;have Y:ay X pins z H {s with heap:=h',toks:=tk}:=I.fJ (λb o g e=>(W.2 b g).trans e) r t y B C;have⟨o,e,c,d⟩:=id F;exact⟨u,J,n_ e c d gn ⟨x,H,Y,S,⟨J,λys a3=>I.HP a3 L▸M⟩,⟨a2,F⟩,λb g=>(hf b g).1⟩⟩
 done:=by
  intro X j l m G i pins s z H E I hf st q;subst j l m;have⟨r,t,T,y,B,C⟩:=hf it Gc;obtain⟨a2,f⟩:=st;have GF:n<=i:=q;have D:(n:Int)-1-((i:Nat))= -1:=Z;rw[D]at f;exact U' (I.ok.hd G) f λh' eb=>⟨J,I.fJ (λb o g e=>eb b o g e) r t y B C⟩
 self:=λA i s Q E st h=>Kn st.2 h
inductive Ko'(K:Ñ)(R:It->Hp->Prop)(vs:List V)(H1:Hp):Prop|m(a xs:_)(_:vs=[.ref a])(_:aV K H1 a xs)(_:R (yj K a xs.length) H1)
def Ko(K:Ñ)(ta:TA):TI:=λz H R=>ta z H<|Ko' K R
def Kq{ta}(c:Gl X "reversed")(d:X.mg "reversed"=U)(f:PA X [e] ta)(g:Ð [e] X.ah=[(false,Ï e X.ah)]:=by rfl):PI X tg (.Call (.Name "reversed" p) [e] [] pos) (Ko X.K ta):=λpins s z H R I h=>by
 refine η<|n8 I c d Jv<|u9 (aM (f pos pins s z H _ I h) λus v ⟨vs,H1,b,j,k⟩=>?_) g J;obtain⟨a,xs,e,l,q⟩:=k;subst e;cases j with
 |cons r m=>
  cases m;cases r;have⟨aD,n,o,w⟩:=b.tuple l;let x:=n.length;let y:=mw;let u:(aD.toArray.size:Int)-1=(xs.length:Int)-1-((0:Nat)):=by simp only[cx];omega
  refine U9 o (by rw[cx];omega) λtk=>Kn ⟨_,c7 _ J,J,J⟩ ?_;refine rB b _ (Vb a _ xs.length) ⟨cM _,?_⟩ q;exact u▸⟨_,c7 _ J,J,J⟩
def PI.or{i j:TI}(h:PI X tg e i)(h':PI X tg e j):PI X tg e (λz H R=>i z H R\/j z H R):=λpins s z H R I q=>by
 rcases q with q|q
 .exact h pins s z H R I q
 .exact h' pins s z H R I q
def Vc{t u:TE}(h:PE X e t)(h':PE X e u):PE X e (λz H Q=>t z H Q\/u z H Q):=λpins s z H Q I q=>by
 rcases q with q|q
 .exact h pins s z H Q I q
 .exact h' pins s z H Q I q
def Vd(K:Ñ)(tl:TE):TI:=λz H R=>HV K tl z H R\/HW K tl z H R
def Ve{l:â}{tl:TE}(a:PE X l tl):PI X tg l (Vd X.K tl):=PI.or (dm a)<|wg a
def Kr(K:Ñ)(ta:TA):TI:=λz H R=>Jy K ta z H R\/Ko K ta z H R
def Vf{ta}(a:Gl X "reversed")(b:X.mg "reversed"=U)(c:PA X [e] ta)(d:Ð [e] X.ah=[(false,Ï e X.ah)]:=by rfl):PI X tg (.Call (.Name "reversed" p) [e] [] pos) (Kr X.K ta):=PI.or (Tq a b c d)<|Kq a b c d
def Vg(a:X.K=K)(b:X.A.units+64<Ĥ):dS X (ó .Eq) (Jb K):=by subst a;exact zl b
section
variable {i:â} {ty:TE}
def Vh(a:X.prog=P)(b:X.w=w)(c:X.K=K)(hi:PE X i ty)(d:PE X o td):PC X .NotIn i o (DL P w K ty td):=by subst a b c;exact zO hi d
end
def Vi{tb:TS}{D:iS}(b:Nat->St->Hp->Prop)(j:b 0 z H)(k:∀i z H,i<=xs.length->b i z H->ao K H a xs)(l:∀i x z H,i<xs.length->xs[xs.length-1-i]?=O x->b i z H->g x z H λc H2=>tb {D with nx:=b (i+1),ct:=b (i+1),bk:=D.nx} c H2) (hd:∀z H,b xs.length z H->D.nx z H):∃W:Nat->Nat->St->Hp->Prop,(∃m,W 0 m z H)/\∀i m z H,W i m z H->((x6 K a xs.length).stop i H/\D.nx z H)\/((x6 K a xs.length).go i H/\∃N,(∀d H',N d H'->∃h,h<m/\W (i+1) h d H')/\∀x H',(x6 K a xs.length).fU i H x H'->g x z H' λc H2=>tb {D with nx:=N,ct:=N,bk:=D.nx} c H2):=by
 refine⟨λi m z H=>m=xs.length-i/\i<=xs.length/\b i z H,⟨xs.length,Gc,cM _,j⟩,?_⟩;rintro i m z H ⟨rfl,hi,p⟩;have q:=k i z H hi p;by_cases f:i<xs.length
 .refine .inr ⟨⟨f,xs,xs[xs.length-1-i],q,Gc⟩,b (i+1),λd H' n=>⟨xs.length-(i+1),Z,J,f,n⟩,λx H' y=>?_⟩;obtain⟨e,y⟩:=y;subst e;exact l i x z _ f (y xs q) p
 .have e:i=xs.length:=Z;subst e;exact .inl ⟨aN _,hd z H p⟩
def Ks{tb:TS}{D:iS}(b:Nat->St->Hp->Prop)(j:b 0 z H)(k:∀i z H,i<=xs.length->b i z H->aV K H a xs)(l:∀i x z H,i<xs.length->xs[xs.length-1-i]?=O x->b i z H->g x z H λc H2=>tb {D with nx:=b (i+1),ct:=b (i+1),bk:=D.nx} c H2) (hd:∀z H,b xs.length z H->D.nx z H):∃W:Nat->Nat->St->Hp->Prop,(∃m,W 0 m z H)/\∀i m z H,W i m z H->((yj K a xs.length).stop i H/\D.nx z H)\/((yj K a xs.length).go i H/\∃N,(∀d H',N d H'->∃h,h<m/\W (i+1) h d H')/\∀x H',(yj K a xs.length).fU i H x H'->g x z H' λc H2=>tb {D with nx:=N,ct:=N,bk:=D.nx} c H2):=by
 refine⟨λi m z H=>m=xs.length-i/\i<=xs.length/\b i z H,⟨xs.length,Gc,cM _,j⟩,?_⟩;rintro i m z H ⟨rfl,hi,p⟩;have q:=k i z H hi p;by_cases f:i<xs.length
 .refine .inr ⟨⟨f,xs,xs[xs.length-1-i],q,Gc⟩,b (i+1),λd H' n=>⟨xs.length-(i+1),Z,J,f,n⟩,λx H' y=>?_⟩;obtain⟨e,y⟩:=y;subst e;exact l i x z _ f (y xs q) p
 .have e:i=xs.length:=Z;subst e;exact .inl ⟨aN _,hd z H p⟩
def Kb(D:À)(H H':Hp):Prop:=∀b o,H b=O o->b≠D->H' b=O o
def Kb.refl(D:À)(H:Hp):Kb D H H:=λ_ _ e _=>e
def Kb.trans(a:Kb D H H1)(b:Kb D H1 H2):Kb D H H2:=λc o e h=>b c o (a c o e h) h
def aa.kb(s:aa H H'):Kb D H H':=λb o e _=>s b o e
def Kb.ab{o:HO}:Kb D H (ab H D o):=λb u e h=>by rw[au h];exact e
def Kb.same{a:Hp}(n:a D=U)(s:aa a H)(k:Kb D H H'):aa a H':=λb o e=>k b o (s b o e)<|bv e n
section
variable {k:Nat}
def zQ{R:Nat->V->Hp->Prop}(hk:k<z.length)(hz:xs.length<=1000000)(n:H D=U)(l:∀i v H' a,R i v H'->Kb D H' a->R i v a){x:V}(o:xs[i]?=O x)(he:∀H' (Q:VK),aa H H'->(∀a v,aa H' a->R i v a->Q v a)->te ((bo z [k]).set k (O x)) H' Q)  (p:aa H H'/\∃acc,H' D=O (.ae acc)/\acc.length=i/\∀j v,acc[j]?=O v->R j v H'):fu k x (bo z [k]) H' λf H2=>bo f [k]=bo z [k]/\gA f H2 λb d=>
   if b=true then te f d λy e=>∃acc,e D=O (.ae acc)/\acc.length<É/\(aa H (ab e D (.ae (acc++[y])))/\∃g,(ab e D (.ae (acc++[y]))) D=O (.ae g)/\g.length=i+1/\∀j v,g[j]?=O v->R j v (ab e D (.ae (acc++[y]))))
   else(aa H d/\∃acc,d D=O (.ae acc)/\acc.length=i+1/\∀j v,acc[j]?=O v->R j v d):=by
 obtain⟨m,acc,r,s,t⟩:=p;have hi:i<xs.length:=(b9.mp o).1;refine⟨?_,?_⟩
 .show((z.set k U).set k<|O _).set k U=z.set k U;rw[xK,xK]
 .simp only[gA,fi];refine he H' _ m λa v h w=>?_;refine⟨acc,h _ _ r,by rw[bn];lia,Kb.same n (m.trans h) Kb.ab,acc++[v],aq,by rw[bw,s];rfl,λj u c=>?_⟩;by_cases q:j<acc.length
  .rw[jX q]at c;exact l _ _ _ _ (t j u c)<|(aa.kb h).trans Kb.ab
  .rw[lY Z]at c;have A:j-acc.length=0:=by
    by_cases F:j-acc.length=0
    .exact F
    .rw[j0 (by simp;lia)]at c;cases c
   rw[A]at c;cases c;have:j=i:=Z;subst this;exact l _ _ _ _ w Kb.ab
def DO{R:Nat->V->Hp->Prop}(hk:k<z.length)(q:ao K H a xs)(hz:xs.length<=1000000)(g:H D=U)(r:∀i v H' c,R i v H'->Kb D H' c->R i v c)(he:∀i x,xs[i]?=O x->∀H' (Q:VK),aa H H'->(∀c v,aa H' c->R i v c->Q v c)->te ((bo z [k]).set k (O x)) H' Q)(s:∀H' vals,aa H H'->H' D=O (.ae vals)->vals.length=xs.length->(∀i v,vals[i]?=O v->R i v H')->Qd H'):∃W:Nat->Nat->Hp->Prop,(∃m,W 0 m (ab H D (.ae [])))/\∀i m H',W i m H'->((iG K a).stop i H'/\Qd H')\/((iG K a).go i H'/\∃d:Hp->Prop,(∀H',d H'->∃l,l<m/\W (i+1) l H')/\∀x H2,(iG K a).fU i H' x H2->fu k x (bo z [k]) H2 λf H2=>bo f [k]=bo z [k]/\gA f H2 λb n=>
    if b=true then te f n λy o=>∃acc,o D=O (.ae acc)/\acc.length<É/\d (ab o D (.ae (acc++[y])))else d n):=by
 refine ui (λi H'=>aa H H'/\∃acc,H' D=O (.ae acc)/\acc.length=i/\∀j v,acc[j]?=O v->R j v H') ⟨aa.ab g,[],aq,J,λj v h=>by simp at h⟩ (λi H' _ e=>e.1.seq q) (λi x H' p e=>?_) λH' e=>?_
 .exact zQ hk hz g r p (he i x p) e
 .obtain⟨t,acc,h1,h2,u⟩:=e;exact s H' acc t h1 h2 u
def Vj{R:Nat->V->Hp->Prop}(hk:k<z.length)(q:aV K H a xs)(hz:xs.length<=1000000)(g:H D=U)(r:∀i v H' c,R i v H'->Kb D H' c->R i v c)(he:∀i x,xs[i]?=O x->∀H' (Q:VK),aa H H'->(∀c v,aa H' c->R i v c->Q v c)->te ((bo z [k]).set k (O x)) H' Q)(s:∀H' vals,aa H H'->H' D=O (.ae vals)->vals.length=xs.length->(∀i v,vals[i]?=O v->R i v H')->Qd H'):∃W:Nat->Nat->Hp->Prop,(∃m,W 0 m (ab H D (.ae [])))/\∀i m H',W i m H'->((j6 K a).stop i H'/\Qd H')\/((j6 K a).go i H'/\∃d:Hp->Prop,(∀H',d H'->∃l,l<m/\W (i+1) l H')/\∀x H2,(j6 K a).fU i H' x H2->fu k x (bo z [k]) H2 λf H2=>bo f [k]=bo z [k]/\gA f H2 λb n=>
    if b=true then te f n λy o=>∃acc,o D=O (.ae acc)/\acc.length<É/\d (ab o D (.ae (acc++[y])))else d n):=by
 refine Di (λi H'=>aa H H'/\∃acc,H' D=O (.ae acc)/\acc.length=i/\∀j v,acc[j]?=O v->R j v H') ⟨aa.ab g,[],aq,J,λj v h=>by simp at h⟩ (λi H' _ e=>e.1.be q) (λi x H' p e=>?_) λH' e=>?_
 .exact zQ hk hz g r p (he i x p) e
 .obtain⟨t,acc,h1,h2,u⟩:=e;exact s H' acc t h1 h2 u
def zR{a:List V}(b:vals.length=a.length)(h:∀(i:Nat)(v:V),vals[i]?=O v->a[i]?=O v):vals=a:=List.ext_getElem? λi=>by
 cases e:vals[i]? with
 |some v=>rw[h i v e]
 |none=>rw[j0<|b▸List.getElem?_eq_none_iff.mp e]
def lq(hk:k<z.length)(o:ao K H a xs)(f:xs.length=vals.length)(hz:xs.length<=1000000)(p:H D=U)(he:∀(i:Nat)(x v:V),xs[i]?=O x->vals[i]?=O v->∀H' (Q:VK),aa H H'->(∀c,aa H' c->Q v c)->te ((bo z [k]).set k (O x)) H' Q) (r:∀H',aa H H'->H' D=O (.ae vals)->Qd H'):∃W:Nat->Nat->Hp->Prop,(∃m,W 0 m (ab H D (.ae [])))/\∀i m H',W i m H'->((iG K a).stop i H'/\Qd H')\/((iG K a).go i H'/\∃d:Hp->Prop,(∀H',d H'->∃g,g<m/\W (i+1) g H')/\∀x H2,(iG K a).fU i H' x H2->fu k x (bo z [k]) H2 λe H2=>bo e [k]=bo z [k]/\gA e H2 λb j=>
    if b=true then te e j λy l=>∃acc,l D=O (.ae acc)/\acc.length<É/\d (ab l D (.ae (acc++[y])))else d j):=DO (R:=λi v _=>vals[i]?=O v) hk o hz p (λ_ _ _ _ h _=>h) (λi x n H' Q s q=>by
  let hi:i<vals.length:=f▸(b9.mp n).1;exact he i x vals[i] n (by simp[hi]) H' Q s λc t=>q c vals[i] t (by simp[hi])) λH' vs s h1 h2 u=>by
  rw[zR (h2.trans f) u]at h1;exact r H' s h1
def Kt(hk:k<z.length)(o:aV K H a xs)(f:xs.length=vals.length)(hz:xs.length<=1000000)(p:H D=U)(he:∀(i:Nat)(x v:V),xs[i]?=O x->vals[i]?=O v->∀H' (Q:VK),aa H H'->(∀c,aa H' c->Q v c)->te ((bo z [k]).set k (O x)) H' Q) (r:∀H',aa H H'->H' D=O (.ae vals)->Qd H'):∃W:Nat->Nat->Hp->Prop,(∃m,W 0 m (ab H D (.ae [])))/\∀i m H',W i m H'->((j6 K a).stop i H'/\Qd H')\/((j6 K a).go i H'/\∃d:Hp->Prop,(∀H',d H'->∃g,g<m/\W (i+1) g H')/\∀x H2,(j6 K a).fU i H' x H2->fu k x (bo z [k]) H2 λe H2=>bo e [k]=bo z [k]/\gA e H2 λb j=>
    if b=true then te e j λy l=>∃acc,l D=O (.ae acc)/\acc.length<É/\d (ab l D (.ae (acc++[y])))else d j):=Vj (R:=λi v _=>vals[i]?=O v) hk o hz p (λ_ _ _ _ h _=>h) (λi x n H' Q s q=>by
  let hi:i<vals.length:=f▸(b9.mp n).1;exact he i x vals[i] n (by simp[hi]) H' Q s λc t=>q c vals[i] t (by simp[hi])) λH' vs s h1 h2 u=>by
  rw[zR (h2.trans f) u]at h1;exact r H' s h1
def Vk{y:Ã}(hk:k<z.length)(l:y.cps.size=vals.length)(hz:y.cps.size<=1000000)(n:H D=U)(he:∀(i c:Nat)(v:V),y.cps[i]?=O c->vals[i]?=O v->∀H' (Q:VK),aa H H'->(∀a,aa H' a->Q v a)->te ((bo z [k]).set k (O (.str ⟨#[c]⟩))) H' Q) (t:∀H',aa H H'->H' D=O (.ae vals)->Qd H'):∃W:Nat->Nat->Hp->Prop,(∃m,W 0 m (ab H D (.ae [])))/\∀i m H',W i m H'->((nc y).stop i H'/\Qd H')\/((nc y).go i H'/\∃d:Hp->Prop,(∀H',d H'->∃o,o<m/\W (i+1) o H')/\∀x H2,(nc y).fU i H' x H2->fu k x (bo z [k]) H2 λf H2=>bo f [k]=bo z [k]/\gA f H2 λb p=>
    if b=true then te f p λy r=>∃acc,r D=O (.ae acc)/\acc.length<É/\d (ab r D (.ae (acc++[y])))else d p):=by
 refine DH (λi H'=>aa H H'/\∃acc,H' D=O (.ae acc)/\acc.length=i/\∀(j:Nat)(v:V),acc[j]?=O v->vals[j]?=O v) ⟨aa.ab n,[],aq,J,λj v h=>by simp at h⟩ (λi c H' g e=>?_) λH' e=>?_
 .let hi:i<vals.length:=l▸(afc.mp g).1;refine zQ (xs:=y.cps.toList.map λc=>V.str ⟨#[c]⟩) hk (by simpa using hz) n (λ_ _ _ _ h _=>h) (by rw[aR,Ôf,g];rfl) (λH' Q s q=>?_) e;exact he i c vals[i] g (by simp[hi]) H' Q s λa u=>q a vals[i] u (by simp[hi])
 .obtain⟨w,acc,h1,h2,F⟩:=e;rw[zR (h2.trans l) F]at h1;exact t H' w h1
end
theorem Ku:∀{ag:List (aL×V)}{vs:List (aL×Á)}{us:List Á},KV ag vs->us.length=vs.length->(∀(j:Nat)(u:Á),us[j]?=O u->∃k x,vs[j]?=O (k,x)/\nV k u=true)->aX (ag.map λq=>kV q.1) us
|[],vs,us,h,a,_=>by cases h;have:us=[]:=kQ (by simpa using a);subst this;exact .nil
|q::ag,vs,us,h,a,hk=>by
 cases h with
 |@cons _ p _ ps c d=>
  match us,a with
  |u::us,a=>
   obtain⟨k,x,e,b⟩:=hk 0 u J;cases e;refine .cons ?_<|Ku d (by simpa using a) λj u b=>hk (j+1) u b;show bm (kV q.1) u;rw[c.1];exact JE b
def Vl{Q}(g:X.gf=true)(I:ay X pins z H s)(e:H a=O (.dK ag))(h:∀(us:List Á)(h':á)(tk:Nat),aX (ag.map λq=>kV q.1) us->us.length<=É->(∀b o,s.heap.get? b=O o->h'.get? b=O o)->(h'.push (ψ "list" us.toArray 0)).get? h'.objs.size=O (ψ "list" us.toArray 0)->Ç (Í X.prog X.w) X.A.in1.in1 (Ē.«list.sort» ⟨[.ref h'.objs.size],[]⟩) (λfin s'=>fin=.done (.ret .none)/\EP X pins z Q (.ref h'.objs.size) s') X.xe {s with heap:=h'.push (ψ "list" us.toArray 0),toks:=tk}):Ç (Í X.prog X.w) X.A (call (.builtin "sorted") [.ref a]) (EP X pins z Q) X.xe s:=by
 obtain⟨n,lo,vs,d,i⟩:=zu I.aF e;obtain⟨ep,k⟩:=i.dictAt;have p:ag.length=vs.length:=rZ d;refine Calls.call_function_entry kind_sorted plain_sorted entry_sorted (args_sorted1 _) ?_;unfold Ē.«sorted»;refine aA<|bc ?_;have hd:X.A.in1.handled=none:=I.ok.hd g;refine aA<|PySem.W.kdu_collect (PySem.W.kdl_dict lo) hd k Z λh' tk acc hk f=>?_;have c:acc.toList.length=vs.length:=qw▸f.1;refine aA<|wpAny_newList ?_ (by rw[c];lia);have pv:=Ku d c λj u l=>f.2 j u (Ôf▸l);have at_:(h'.push<|ψ "list" acc.toList.toArray 0).get? h'.objs.size=O (ψ "list" acc.toList.toArray 0):=c7 _ J;refine aA<|oI<|mO slot_list_sort ⟨_,at_,J⟩ entry_list_sort ?_<|args_list_sort _;refine iZ (h acc.toList h' tk pv (by rw[c];lia) hk at_) (λfin s' q=>?_) λ_ _ F=>F;obtain⟨rfl,q⟩:=q;exact⟨_,J,bc ⟨_,J,q⟩⟩
inductive Vm(vs:List V)(H:Hp)(Q:VK):Prop|m(a ag:_)(_:vs=[V.ref a])(_:H a=O (.dK ag))(_:((∃ns,ag.map (λq=>kV q.1)=ns.map V.int/\∀(qI:List Int)(p:À),qI.Perm ns->qI.Pairwise (·<=·)->H p=U->Q (.ref p) (ab H p<|.ae<|qI.map V.int))\/ (∃xs,ag.map (λq=>kV q.1)=xs.map V.str/\∀ys p,ys.Perm xs->sortedS ys=true->H p=U->Q (.ref p) (ab H p<|.ae<|ys.map V.str))))
def Kv(n:X.gf=true:=by rfl):io X (.builtin "sorted") Vm:=λpins s z H vs us Q I r h=>by
 obtain⟨a,ag,rfl,p,h⟩:=h;rw[aX.wz r];refine Vl n I p λaD h' tk pv f hk at_=>?_;let I:=I.cy (t':=tk) hk;let g:h'.objs.size<=h'.objs.size:=aN _;let d:∀c b o,h'.get? b=O o->(sortedHeap (h'.push<|ψ "list" aD.toArray 0) h'.objs.size aD c).get? b=O o:=by intro c b o e;let lt:=cG e;let m:b<h'.objs.size:=lt;rw[sortedHeap_old (gm m) (by rw[size_push'];exact F2 m)];exact b_ _ e
 rcases h with⟨ns,t,q⟩|⟨xs,ex,q⟩
 .rw[t]at pv;let hi:=pv.ints;refine list_sort_treeAny at_ hi f λc i h1 h2 j=>⟨J,?_⟩
  obtain⟨ep,k⟩:=sortedHeap_at at_;let hlen:(i.map V.int).length<=sizeLine:=by rw[aK,h2.length_eq,<-hi.length];exact f
  exact⟨.ref _,ab H h'.objs.size<|.ae<|i.map V.int,I.fH (d c) g ⟨hlen,c.toList,ep,IW h1,k⟩,J,q i _ h2 j<|I.aF.fresh g⟩
 .rw[ex]at pv;let l:=pv.strs;let u:aD.length=xs.length:=by let:=pv.length;rw[aK]at this;exact this.symm
  refine list_sort_treeKAny strKind_oneLt at_ l.keysOf (λy F cI e=>keyKind_strs (e▸l)) f λv w x=>⟨J,?_⟩
  obtain⟨ys,h1,h2,j⟩:=sorted_out_str l w x;obtain⟨ep,k⟩:=sortedHeap_at at_;let hlen:(ys.map V.str).length<=sizeLine:=by rw[aK,h2.length_eq,<-u];exact f
  exact⟨.ref _,ab H h'.objs.size<|.ae<|ys.map V.str,I.fH (d _) g ⟨hlen,_,ep,IX h1,k⟩,J,q ys _ h2 j<|I.aF.fresh g⟩
def Vn(t u:TE):TE:=λz H Q=>t z H Q\/u z H Q
def Vo{t u:TE}(h:PE X e t)(h':PE X e u):PE X e (Vn t u):=Vc h h'
set_option maxRecDepth 8000 in
theorem Vp (l:À) (xs:Array Á) (n:Nat) (b:À) (ys:Array Á) (m:Nat) (c:Option À) (sl:Array (Option Á)) (f:¬(!xs.isEmpty&&Ϙ (xs.size+ys.size))=true) (h1:xs.size<=É) (h2:(xs++ys).size<=É+1):Meets (Ē.«list.extend» ⟨[.ref l,.ref b],[]⟩) (λ_ R s=>s.heap.get? l=O {cls:=.type "list",dict:=U,data:=.seq xs n,slots:=#[]}/\s.heap.get? b=O {cls:=.type "tuple",dict:=c,data:=.seq ys m,slots:=sl}/\R (.ok (.ret į)) {s with heap:=s.heap.update l (ο λx=>x++ys),toks:=s.toks}):=
 .of_wp λprog w A R s h=>by obtain⟨a,e,h⟩:=h;wp_walk using(F' a J),OJ a,OJ e;exact⟨_,J,h⟩
section
def Vq:BS X "list.extend" Va:=λpins s z H x vs v us Q I rx g h=>by
 obtain⟨l,b,xs,zs,rfl,rfl,c,i,t,q⟩:=h;cases rx;obtain⟨u,rfl,j⟩:=g.c8;cases j;refine gg λP0 p0=>?_;obtain⟨a0,aD,n,r,w,e⟩:=I.rm c;obtain⟨a,d,⟨⟨k,m,data,sl⟩,e2,f,o,hd⟩,y⟩:=I.tuple<|aV.of i;refine p0 ?_;simp only at f hd;subst f hd;have A:=r.length;have l2:=d.length;have hsz:aD.toArray.size+a.toArray.size<=sizeLine:=by rw[cx,cx];lia
 have p:¬(!aD.toArray.isEmpty&&Ϙ (aD.toArray.size+a.toArray.size))=true:=by rw[IS hsz,vc];exact eg
 refine l5 F.slot_list_extend ⟨_,e,J⟩ Çc (Çd _ _)
  (Vp l aD.toArray n b a.toArray o m sl p (by rw[cx];lia) (by rw[Array.size_append];lia)) ⟨e,e2,?_⟩
 refine⟨.aQ,_,I.zi c e Gc (r.append d) ?_,J,q⟩;rw[bw];lia
theorem Kw(k:Ã):∀ys:List Ã,countIn (.str k) (ys.map Θ)=((ys.countP λy=>decide (y=k):Nat):Int)
|[]=>rfl
|y::r=>by
 rw[bz,countIn,Kw k r,List.countP_cons];by_cases e:y=k
 .subst e;rw[aj (by simp[same])];simp;lia
 .rw[ai (by simp[same,e])];simp[e]
inductive Kx(K:Ñ)(x:V)(vs:List V)(H:Hp)(Q:VK):Prop|m(a:À)(ys:List Ã)(k:Ã)(_:x=.ref a)(_:vs=[.str k])(_:ao K H a (ys.map V.str))(_:Q (.int<|ys.countP λy=>decide (y=k)) H)
def Vr:iI X "list.count" (Kx X.K):=λpins s z H x vs v us Q I rx b h=>by
 obtain⟨a,ys,k,rfl,rfl,c,q⟩:=h;cases rx;obtain⟨u,rfl,d⟩:=b.c8;obtain⟨t,rfl⟩:=d;obtain⟨aD,r,e,f⟩:=I.list c;refine count_list_strs e.isList r.strs ?_;rw[Kw];exact⟨.int _,H,I.cN _,⟨_,J⟩,q⟩
def Vs(a:X.K=K):iI X "list.count" (Kx K):=by subst a;exact Vr
def Vt:iI X "str.strip" (λx xs H Q=>c2 λa b=>x=.str a/\xs=[.str b]/\a.length<=É/\Q (.str (ϵ a b)) H):=λpins s z H x xs v us Q I rx rs h=>by obtain⟨a,b,rfl,rfl,c,h⟩:=h;obtain⟨t,rfl⟩:=rx;obtain⟨u,rfl,d⟩:=rs.c8;obtain⟨e,rfl⟩:=d;exact PySem.SC.stripChars (λt' k=>⟨.str _,H,I.cN k,⟨t',J⟩,h⟩) c
def Ky(P:ò)(w:è)(K:Ñ)(td ty tx:TE):TE:=λz H Q=>td z H λx H1=>c2 λa ag=>x=.ref a/\DK P w K a ag/\ty z H1 λy H2=>tx z H2 λF H3=>∃k,y=kV k/\Q ((bT ag k).getD F) H3
variable {f:â} {ty:TE}
def Vu(l:PE X o td)(he:PE X e ty)(n:PE X f tx)(m:M2 X o "get" apos e f cf):PE X (.Call (.Attribute o "get" apos) [e,f] [] cf) (Ky X.prog X.w X.K td ty tx):=λpins s z H Q I h=>by
 refine Oq m.base m.GC m.line Os Bo ae9<|aM (l pins s z H _ I h) λu p q0=>?_;obtain⟨x,H1,c,rx,a,ag,ex,d,r⟩:=q0;subst ex;obtain rfl:u=ç a:=rx;obtain⟨G,t,g⟩:=d.at c;refine⟨g.typeIs,λb q=>?_,?_⟩
 .cases q;obtain⟨o',es,ep,v,e2,_⟩:=id g;exact⟨o',v,e2.2.1⟩
 rw[m.Dr];refine vb J<|Bh<|sh<|aM (he pins p z H1 _ c r) λa0 w ⟨y,H2,A,ry,B⟩=>sh<|aM (n pins w z H2 _ A B) λfv K ⟨a1,C,i,D,k,E,F⟩=>Bg ?_;subst E;obtain⟨vs,cQ,j⟩:=d.at i;refine F5 Bo j.typeIs Oo (Op _ _ _) (Çh (eV X.prog X.w) a (kq ry) d.DJ fv) ⟨_,j.mapOf,?_⟩;exact⟨_,C,i.cN _,(cQ.val k).getD D,F⟩
def Vv(a:X.prog=P)(b:X.w=w)(c:X.K=K)(d:PE X o td)(he:PE X e ty)(g:PE X f tx)(m:M2 X o "get" apos e f cf):PE X (.Call (.Attribute o "get" apos) [e,f] [] cf) (Ky P w K td ty tx):=by subst a b c;exact Vu d he g m
def Vw(td ty tx:TE):TE:=λz H Q=>td z H λx H1=>∃a,x=.ref a/\GD H1 a/\ty z H1 λy H2=>tx z H2 λF H3=>c2 λag k=>H3 a=O (.dK ag)/\y=kV k/\ag.length<É/\(∀v,bT ag k=O v->Q v H3)/\(bT ag k=U->Q F (ab H3 a<|.dK<|de ag k F))
def Vx(t:PE X o td)(he:PE X e ty)(w:PE X f tx)(m:M2 X o "setdefault" apos e f cf):PE X (.Call (.Attribute o "setdefault" apos) [e,f] [] cf) (Vw td ty tx):=λpins s z H Q I h=>by
 refine Oq m.base m.GC m.line Os afh PySem.F.type_dict_setdefault<|aM (t pins s z H _ I h) λu A q0=>?_;obtain⟨x,H1,i,rx,a,ex,d,B⟩:=q0;subst ex;obtain rfl:u=ç a:=rx;obtain⟨C,D,_⟩:=Jt i d;refine⟨C,D,?_⟩;rw[m.Dr];refine vb J<|Bh<|sh<|aM (he pins A z H1 _ i B) λa1 E ⟨y,H2,F,ry,G⟩=>sh<|aM (w pins E z H2 _ F G) λfv V ⟨a3,a2,c,j,ag,k,l,K,W,qs,L⟩=>Bg ?_;subst K;obtain⟨M,hd,vs,cQ,n⟩:=zu c.aF l;let N:=cQ.length;let b:=cQ.val k;refine F5 afh n.typeIs PySem.F.entry_dict_setdefault (PySem.F.args_dict_setdefault_3 _ _ _) (PySem.kt_meets_setdefault (eV X.prog X.w) a (kq ry) hd fv) ⟨vs,n,N▸M,λv p=>?_,λa0 h' r P=>?_⟩
 .cases q:bT ag k with
  |none=>rw[q,p]at b;exact b.elim
  |some g=>rw[q,p]at b;exact⟨g,a2,c.cN _,b,qs g q⟩
 .cases q:bT ag k with
  |some g=>rw[q,a0]at b;exact b.elim
  |none=>
   let R:(de ag k a3).length<=sizeLine:=by let:=pS ag k a3;lia
   let S:∃q,h'.get? a=O q:=let⟨q,_,_,T,_⟩:=r;⟨q,T⟩;exact⟨a3,_,zw c (l▸Ő) P S<|Dl R hd (cQ.g_ k j) r,j,L q⟩
end
def Vy:HU X (wv X.K):=λpins s z H x y v u Q I rx ry h=>by
 obtain⟨p,rfl,h⟩:=bX h;obtain⟨i,rfl,xs,F,c,d,q⟩:=bY h;cases rx;obtain⟨t,rfl⟩:=ry;have⟨aD,r,pl,l⟩:=I.list c;have⟨j,h1,h2,m,e,f⟩:=zg d;have⟨w,b,g⟩:=r.get h2;let k:=r.length;let n:=mw;let fin:EP X pins z Q w s:=⟨F,H,I,g,q⟩;by_cases h0:0<=i
 .let a:i.toNat=j:=by rw[FW h0 f]at h1;exact cZ h1
  exact wpAny_getItem_list pl.isList h0 Z (by rw[a];simpa using b) fin
 .have a:(i+(aD.toArray.size:Int)).toNat=j:=by rw[FX Z e]at h1;exact cx▸k▸cZ h1
  exact Ça pl.isList Z (by rw[cx]<;>omega) Z (by rw[a];simpa using b) fin
def Vz(a:X.K=K){t}{id}{r:V->List V->Hp->VK->Prop}(b:Âf T)(slot:Ĳ T name id)(c:ϗ (.builtin id)=pure (.type "method_descriptor")) (d:iI X id r) (f:PE X o to) (g:PA X (e::es) t) (h:Ċ o name X.ah (Ï o X.ah)=Ï o X.ah:=by rfl)(i:((æ cf (Ð (e::es) X.ah)).all (λx=>!x.1)&&(Ė cf (ė [] X.ah)).all (λx=>x.1.isSome)
   &&decide ((e::es).length+([]:List Ę).length+(if([]:List Ę).isEmpty then 0 else 1)<30))=true:=by rfl)(j:(apos.endLine==cf.line)=true:=by rfl) (k:Ð (e::es) X.ah=(false,Ï e X.ah)::Ð es X.ah:=by rfl) (hplain:(æ cf (Ð es X.ah)).any (·.1)=false:=by rfl):PE X (.Call (.Attribute o name apos) (e::es) [] cf) (sY K T r to t):=by
 subst a;exact pO b slot c d f g h i j k hplain
open PySem.MeetsSeq (EqGives)
def VA(a n:Nat)(b:β)(f:Nat->β->Sem (ForInStep β))(c:a=0):forIn [a:n] b f=forIn (Λ 0 n 1) b f:=by
 subst c;rw[Òg];let hsz:([:n]:Êf).size=n:=by simp[Òh]
 show forIn (Λ 0 ([:n]).size 1) b f=_;rw[hsz]
def VB(l:À)(items:Array Á)(n:Nat)(o:Option À)(sl:Array (Option Á))(x:Á)(e:Á->Bool)(he:∀y,y∈items->EqGives y x (e y))(j:Nat)(v:j<items.size)(c:e items[j]=true) (p:∀m (z:m<items.size),m<j->e items[m]=false):Meets (Ē.«tuple.index» ⟨[.ref l,x],[]⟩)
   (λ_ R s=>s.heap.get? l=O {cls:=.type "tuple",dict:=o,data:=.seq items n,slots:=sl}/\R (.ok (.ret (.int j s.toks))) {s with toks:=s.toks+1}):=
 .of_wp λprog w A R s h=>by
  obtain⟨q,g,d,tk,os⟩:=s;obtain⟨r,h⟩:=h
  wp_walk using OJ r
  refine(?_:Ç _ _ (forIn [0:min items.size items.size] _ _) _ _ _);rw[VA 0 _ _ _ J,Nat.min_self];refine wpAny_forIn_list _ (λcI b s'=>b.1=U/\s'=⟨q,g,d,tk,os⟩/\∃i,i<=j/\cI=Λ i (items.size-i) 1) _ ?_ ?_ _ _ ⟨J,J,0,cM _,Gc⟩
  .rintro i cI b s' ⟨t,rfl,k,hk,a⟩;let f:k<items.size:=Z;rw[show items.size-k=(items.size-(k+1))+1 by lia,OK]at a;cases a;rw[show items[i]?=O items[i]from Ow f];refine aA<|he _ (Array.getElem_mem f) prog w _ _ _ _ ?_;by_cases u:i=j
   .subst u;rw[c]
    wp_walk
    exact⟨_,J,h⟩
   .rw[p i f Z]
    wp_walk
    exact⟨J,J,i+1,Z,J⟩
  .rintro b s' ⟨t,rfl,i,hi,a⟩
   exfalso
   rw[show items.size-i=(items.size-(i+1))+1 by lia,OK]at a;cases a
section
inductive Kz(K:Ñ)(x:V)(vs:List V)(H:Hp)(Q:VK):Prop|m(a:À)(ys:List Ã)(k:Ã)(j:Nat)(_:x=.ref a)(_:vs=[.str k])(_:aV K H a (ys.map V.str))(_:ys[j]?=O k)(_:(∀m y,m<j->ys[m]?=O y->y≠k))(_:Q (.int j) H)
def VC:iI X "tuple.index" (Kz X.K):=λpins s z H x vs v us Q I rx B h=>by
 obtain⟨a,ys,k,j,rfl,rfl,C,D,E,q⟩:=h;cases rx;obtain⟨u,rfl,c⟩:=B.c8;obtain⟨t,rfl⟩:=c;obtain⟨aD,r,⟨⟨G,a0,data,sl⟩,e,o,n,hd⟩,M⟩:=I.tuple C;simp only at o hd;subst o hd;have K:=r.strs;have p:=r.length;rw[aK]at p;have w:∀(m:Nat)(y:Ã),ys[m]?=O y->∃(b:m<aD.toArray.size),isStrOf k aD.toArray[m]=decide (y=k):=λm y d=>by
  obtain⟨u,f,c⟩:=r.get (by rw[aR,d];rfl);have b:m<aD.length:=(b9.mp f).1;refine⟨by simpa using b,?_⟩;obtain⟨t',rfl⟩:=c;let:aD.toArray[m]'(by simpa using b)=ś y t':=by rw[List.getElem_toArray];rw[bL b]at f;exact cZ f
  rw[this];show(y==k)=decide (y=k);by_cases a1:y=k
  .subst a1;simp
  .exact bO a1▸gk.mpr a1
 obtain⟨g,l⟩:=w j k D;refine l5 Êg ⟨_,e,J⟩ F.entry_tuple_index (F.args_tuple_index_2 _ _) (VB a aD.toArray n a0 sl (.str k t) (isStrOf k) (λy d=>eq_isStrOf k t K y (by simpa using d)) j g (by rw[l];simp) λm b L=>?_) ⟨e,?_⟩
 .let A:m<ys.length:=by rw[p];simpa using b
  obtain⟨_,e2⟩:=w m ys[m]<|bL A;rw[e2];exact bO<|E m ys[m] L<|bL A
 .exact⟨.int _,H,I.cN _,⟨_,J⟩,q⟩
variable {t:TA}
def VD(a:PE X o to)(b:PA X [e] t)(c:Ċ o "index" X.ah (Ï o X.ah)=Ï o X.ah:=by rfl)(d:((æ cf (Ð [e] X.ah)).all (λx=>!x.1)&&(Ė cf (ė [] X.ah)).all (λx=>x.1.isSome)
   &&decide ([e].length+([]:List Ę).length+(if([]:List Ę).isEmpty then 0 else 1)<30))=true:=by rfl)(f:(apos.endLine==cf.line)=true:=by rfl) (g:Ð [e] X.ah=(false,Ï e X.ah)::Ð [] X.ah:=by rfl) (hplain:(æ cf (Ð [] X.ah)).any (·.1)=false:=by rfl):PE X (.Call (.Attribute o "index" apos) [e] [] cf) (sY X.K "tuple" (Kz X.K) to t):=pO F.plainAttrs_tuple Êg F.type_tuple_index VC a b c d f g hplain
end
structure vG(zp TI TO i1 i2 l2:À):Prop where
 a1:TI≠zp
 a2:TO≠zp
 a3:i1≠zp
 a4:i2≠zp
 a5:TI≠TO
 a6:TI≠i1
 a7:TI≠i2
 a8:TO≠i1
 a9:TO≠i2
 b1:i1≠i2
 b2:l2≠zp
 b3:l2≠TO
 b4:l2≠i1
 b5:l2≠i2
def wP(q:h.IsStrIter a T x t k)(e:Âi b h h')(ne:a≠b):h'.IsStrIter a T x t k:=by obtain⟨o,c,r⟩:=q;exact⟨o,e _ _ ne c,r⟩
def VE{TI TO:À}{k c:Nat}{t}{ys:Array Á}{y a b:Á}(D:vG zp TI TO i1 i2 l2)(n:ē s.heap zp TI TO .none) (gI:ú s.heap TI (.ref i1) (.ref i2)) (gO:ú s.heap TO a b)(g1:s.heap.IsStrIter i1 "str_ascii_iterator" x t k) (g2:s.heap.IsListIter i2 l2 k) (gl:s.heap.IsList l2 ys) (hx:x.cps[k]?=O c) (hy:ys[k]?=O y)(hQ:∀h' u tk,ē h' zp TI TO (Č s.heap.objs.size)->ú h' TO (.str ⟨#[c]⟩ u) y->h'.IsStrIter i1 "str_ascii_iterator" x t (k+1)->h'.IsListIter i2 l2 (k+1)->ú h' s.heap.objs.size (.str ⟨#[c]⟩ u) y->(∀d o,d≠zp->d≠TO->d≠i1->d≠i2->s.heap.get? d=O o->h'.get? d=O o)->Q (.ref s.heap.objs.size) {s with heap:=h',toks:=tk}):Ç (Í prog w) A (Ē.«zip.__next__» ⟨[.ref zp],[]⟩) (λfin s'=>∃v,fin=.done (.ret v)/\Q v s') E s:=by
 obtain⟨a5,z,B,g,os⟩:=s;show Ç _ _ (field (.ref zp) 2 >>=_) _ _ _;refine aA<|ja n J J ?_;refine aA<|ja n J J ?_;refine aA<|su gI J ?_;refine aA ?_;refine aA<|ja n J J<|bc ?_;simp only[fi];refine aA<|Gb ?_;refine aA<|ja n J J ?_;refine aA<|Bx n Gc λp K h=>?_;replace K:ē p zp TI TO .ellipsis:=K;replace h:Ĩ zp a5 p:=h;refine aA ?_;simp only[kR,List.zipIdx_nil,Bk,Bj];refine aA<|aA<|OL ?_;refine aA<|wpAny_nextOf_ascii_item (wP g1 h.extBut D.a3) hx λL M e2=>bc ?_;replace e2:Ĩ i1 p L:=e2;have T:ú L TO a b:=e2.extBut _ _ D.a8<|h.extBut _ _ D.a2 gO;refine aA<|su T J ?_;refine aA<|Êh T λq N i=>?_;replace i:Ĩ TO L q:=i;replace N:ú q TO (.str ⟨#[c]⟩ g) b:=N;refine aA<|xJ<|bc ?_;refine aA<|aA<|OL ?_;show Ç _ _ (Ãe (.ref i2)>>=_) _ _ ⟨q,z,B,g+1,os⟩;refine aA<|wpAny_nextOf_list_item (((g2.extBut h.extBut D.a4).extBut e2.extBut D.b1.symm).extBut i.extBut D.a9.symm)
  (((gl.extBut h.extBut D.b2).extBut e2.extBut D.b4).extBut i.extBut D.b3) hy λa0 j2 j=>bc ?_
 replace j:Ĩ i2 q a0:=j;have a1:ú a0 TO (.str ⟨#[c]⟩ g) b:=j.extBut _ _ D.a9 N;refine aA<|su a1 J ?_;refine aA<|Êh a1 λf C l=>?_;replace l:Ĩ TO a0 f:=l;replace C:ú f TO (.str ⟨#[c]⟩ g) y:=C;refine aA<|xJ<|bc<|bc ?_;refine aA<|su C J ?_;refine aA<|OM ?_;have sz:f.objs.size=a5.objs.size:=by rw[l.1,j.1,i.1,e2.1,h.1]
 have V:ē f zp TI TO .ellipsis:=l.extBut _ _ D.a2.symm<|j.extBut _ _ D.a4.symm<|i.extBut _ _ D.a2.symm<|e2.extBut _ _ D.a3.symm K;have k5:∀d o,d≠zp->d≠TO->d≠i1->d≠i2->a5.get? d=O o->f.get? d=O o:=λd o m F P R e=>
  l.extBut _ _ F<|j.extBut _ _ R<|i.extBut _ _ F<|e2.extBut _ _ P<|h.extBut _ _ m e
 have s5:f.IsStrIter i1 "str_ascii_iterator" x t (k+1):=wP (wP (wP M i.extBut D.a8.symm) j.extBut D.b1) l.extBut D.a8.symm;have t5:f.IsListIter i2 l2 (k+1):=j2.extBut l.extBut D.a9.symm;have W:zp<f.objs.size:=cG V;refine aA ?_;have z6:ē (f.push {cls:=.type "tuple",data:=.seq #[.str ⟨#[c]⟩ g,y]}) zp TI TO .ellipsis:=b_ _ V;refine aA<|Bx z6 Gc λq7 S X=>?_;replace S:ē q7 zp TI TO (Č f.objs.size):=S;refine Bx S Gc λG H Y=>?_;replace H:ē G zp TI TO (Č f.objs.size):=H;have I:∀d o,d≠zp->f.get? d=O o->G.get? d=O o:=λd o m e=>Y.extBut _ _ m<|X.extBut _ _ m<|b_ _ e;have a6:ú G f.objs.size (.str ⟨#[c]⟩ g) y:=Y.extBut _ _ (Bf W)<|X.extBut _ _ (Bf W)<|c7 _ J;rw[sz]at H a6;refine bc ⟨_,J,?_⟩;rw[sz];refine hQ G g (g+1) H (I _ _ D.a2 C) ?_ (t5.at λo e=>I _ o D.a4 e) a6 λd o m F P R e=>I d o m<|k5 d o m F P R e;obtain⟨o,ho,r⟩:=s5;exact⟨o,I _ _ D.a3 ho,r⟩
def VF{TI TO:À}{k:Nat}{t}{ys:Array Á}{a b:Á}{Q:Fin->Ì->Prop}(v:A.handled=U)(D:vG zp TI TO i1 i2 l2)(c:ē s.heap zp TI TO .none) (y:ú s.heap TI (.ref i1) (.ref i2)) (M:ú s.heap TO a b)(z:s.heap.IsStrIter i1 "str_ascii_iterator" x t k) (B:x.cps[k]?=U)(C:∀h' e,(∀d o,d≠zp->d≠TO->d≠i1->d≠i2->s.heap.get? d=O o->h'.get? d=O o)->(∃o,h'.get? e=O o/\o.cls=.type "StopIteration")->E (.ref e) {s with heap:=h'}):Ç (Í prog w) A (Ē.«zip.__next__» ⟨[.ref zp],[]⟩) Q E s:=by
 obtain⟨F,j,l,m,os⟩:=s;show Ç _ _ (field (.ref zp) 2 >>=_) _ _ _;refine aA<|ja c J J ?_;refine aA<|ja c J J ?_;refine aA<|su y J ?_;refine aA ?_;refine aA<|ja c J J<|bc ?_;simp only[fi];refine aA<|Gb ?_;refine aA<|ja c J J ?_;refine aA<|Bx c Gc λf h g=>?_;replace h:ē f zp TI TO .ellipsis:=h;replace g:Ĩ zp F f:=g;refine aA ?_;simp only[kR,List.zipIdx_nil,Bk,Bj];refine aA<|aA<|OL ?_;refine aA<|wpAny_nextOf_ascii_end v (wP z g.extBut D.a3) B λG e e2 H=>?_;obtain⟨I,i,n⟩:=H;have p:ē G zp TI TO .ellipsis:=e2 _ _ D.a3.symm h;have a0:e≠zp:=λq=>by
  rw[q,p]at i;cases i;simp at n
 refine Bx p Gc λK _ r=>C K e (λd o u _ L _ x=>?_) ⟨I,r.extBut _ _ a0 i,n⟩;exact r.extBut _ _ u<|e2 _ _ L<|g.extBut _ _ u x
def VG{a b:Á}{Q:List Á->Ì->Prop}(h:Ç (Í prog w) A (š a) (λi c=>Ç (Í prog w) A (š b) (λj d=>Q [i,j] d) E c) E s):Ç (Í prog w) A (Ãf [a,b]) Q E s:=by
 refine aA ?_;simp only[Bk,Bj];refine aA<|aA<|oI<|iZ h (λi c h1=>?_) λ_ _ e=>e;refine bc<|aA<|aA<|oI<|iZ h1 (λj d h2=>?_) λ_ _ e=>e;exact bc<|bc<|bc h2
def VH(a b:Á):Êj "zip" ⟨[.type "zip",a,b],[]⟩=pure (.type "zip",[a,b]):=by unfold Êj;simp only[isType,sub_zip,pure_bind,Bool.not_true,oK,i']
def VI(x:Ã)(t)(l2:À)(ys:Array Á)(q:x.cps.all (· < 128)=true):Meets (Ē.«zip.__new__» ⟨[.type "zip",.str x t,.ref l2],[]⟩) (λ_ R s=>s.heap.IsList l2 ys/\∀h',ē h' (s.heap.objs.size+4) (s.heap.objs.size+2) (s.heap.objs.size+3) .none->ú h' (s.heap.objs.size+2) (.ref s.heap.objs.size) (.ref (s.heap.objs.size+1))->ú h' (s.heap.objs.size+3) .none .none->h'.IsStrIter s.heap.objs.size "str_ascii_iterator" x t 0->h'.IsListIter (s.heap.objs.size+1) l2 0->(∀d o,s.heap.get? d=O o->h'.get? d=O o)->R (.ok (.ret (.ref (s.heap.objs.size+4)))) {s with heap:=h'}):=
 .of_wp λprog w A R s h=>by
  obtain⟨r,h⟩:=h;refine aA<|xF (VH _ _) ?_;refine aA<|VG<|Çj q<|Ôb (Òi r _) ?_;refine aA<|OM ?_;refine aA<|OM ?_;refine aA ?_;unfold Òj;refine lZ ?_ ?_
  case refine_2=>
   let u:(5:Nat)<=É+2:=by rw[bn];decide
   exact u
  refine bc ⟨_,J,?_⟩;let b:=s.heap.push {cls:=.type "str_ascii_iterator",data:=.fields #[.str x t,.int 0 0]};let p2:=b.push {cls:=.type "list_iterator",data:=.fields #[.ref l2,.int 0 0]};let c:=p2.push {cls:=.type "tuple",data:=.seq #[.ref s.heap.objs.size,.ref b.objs.size]};let f:=c.push {cls:=.type "tuple",data:=.seq #[.none,.none]};let a:=f.push {cls:=.type "zip",data:=.fields #[.none,.bool false,.bool false,.ref p2.objs.size,.ref c.objs.size]};let g:b.objs.size=s.heap.objs.size+1:=i_ ..;let i:p2.objs.size=s.heap.objs.size+2:=by rw[i_,g]
  let j:c.objs.size=s.heap.objs.size+3:=by rw[i_,i]
  let k:f.objs.size=s.heap.objs.size+4:=by rw[i_,j]
  show R (.ok<|.ret<|.ref f.objs.size) {s with heap:=a};let l:a.get? f.objs.size=O _:=c7 _ J;let m:a.get? c.objs.size=O _:=b_ _<|c7 _ J;let n:a.get? p2.objs.size=O _:=b_ _<|b_ _<|c7 _ J;let p:a.get? b.objs.size=O _:=b_ _<|b_ _<|b_ _<|c7 _ J;have v:a.get? s.heap.objs.size=O _:=b_ _<|b_ _<|b_ _<|b_ _<|c7 _ J;rw[k,i,j]at l;rw[i,g]at n;rw[j]at m;rw[g]at p;rw[k];exact h a l n m ⟨_,v,J,J⟩ ⟨_,p,J,J⟩ λd o e=>b_ _<|b_ _<|b_ _<|b_ _<|b_ _ e
def VL{t}{ys:Array Á}(a:x.cps.all (· < 128)=true)(b:s.heap.IsList l2 ys)(h:∀h',ē h' (s.heap.objs.size+4) (s.heap.objs.size+2) (s.heap.objs.size+3) .none->ú h' (s.heap.objs.size+2) (.ref s.heap.objs.size) (.ref (s.heap.objs.size+1))->ú h' (s.heap.objs.size+3) .none .none->h'.IsStrIter s.heap.objs.size "str_ascii_iterator" x t 0->h'.IsListIter (s.heap.objs.size+1) l2 0->(∀d o,s.heap.get? d=O o->h'.get? d=O o)->Q (.ref (s.heap.objs.size+4)) {s with heap:=h'}):Ç (Í prog w) A (call (.type "zip") [.str x t,.ref l2]) Q E s:=by
 refine callType_new F.called_zip gn (F.typeCall_zip_2 _ _) (F.newCall_zip_2 _ _) (λobj=>F.args_object_init_3 obj _ _) F.entry_zip_new (VI x t l2 ys a) ⟨b,λh' b1 b2 b3 b4 b5 c=>?_⟩;exact⟨⟨_,b1,J⟩,h h' b1 b2 b3 b4 b5 c⟩
def VM{TI TO:À}{k c:Nat}{t}{ys:Array Á}{y a b:Á}{Q:Option Á->Ì->Prop}(D:vG zp TI TO i1 i2 l2)(e:ē s.heap zp TI TO .none) (g:ú s.heap TI (.ref i1) (.ref i2)) (h:ú s.heap TO a b)(i:s.heap.IsStrIter i1 "str_ascii_iterator" x t k) (j:s.heap.IsListIter i2 l2 k) (l:s.heap.IsList l2 ys) (m:x.cps[k]?=O c) (n:ys[k]?=O y)(p:∀h' u tk,ē h' zp TI TO (Č s.heap.objs.size)->ú h' TO (.str ⟨#[c]⟩ u) y->h'.IsStrIter i1 "str_ascii_iterator" x t (k+1)->h'.IsListIter i2 l2 (k+1)->ú h' s.heap.objs.size (.str ⟨#[c]⟩ u) y->(∀d o,d≠zp->d≠TO->d≠i1->d≠i2->s.heap.get? d=O o->h'.get? d=O o)->Q (O (.ref s.heap.objs.size)) {s with heap:=h',toks:=tk}):Ç (Í prog w) A (ĉ (.ref zp)) Q E s:=by
 let f:s.TypeIs (.ref zp) "zip":=⟨_,e,J⟩
 let sl:=Ëa;refine aA<|ve<|va f sl ?_;refine mO sl f Ëb ?_<|Ëc _;exact VE D e g h i j l m n λh' u tk q r v z B C=>bc<|p h' u tk q r v z B C
def VN{TI TO:À}{k:Nat}{t}{a b:Á}{Q:Option Á->Ì->Prop}(g:A.handled=U)(D:vG zp TI TO i1 i2 l2)(c:ē s.heap zp TI TO .none) (h:ú s.heap TI (.ref i1) (.ref i2)) (i:ú s.heap TO a b) (j:s.heap.IsStrIter i1 "str_ascii_iterator" x t k) (l:x.cps[k]?=U)(m:∀h',(∀d o,d≠zp->d≠TO->d≠i1->d≠i2->s.heap.get? d=O o->h'.get? d=O o)->Q U {s with heap:=h'}):Ç (Í prog w) A (ĉ (.ref zp)) Q E s:=by
 let f:s.TypeIs (.ref zp) "zip":=⟨_,c,J⟩
 let sl:=Ëa;refine aA<|ve<|va f sl ?_;refine mO sl f Ëb (VF (ys:=#[]) g D c h i j l λh' e hk n=>?_)<|Ëc _;obtain⟨o,p,q⟩:=n;let ty:ϴ (.type "StopIteration") (.type "StopIteration")=pure true:=OA;refine aA<|Oz ⟨o,p,q⟩ ty ?_;exact bc<|m _ hk
def yz(K:Ñ)(x:Ã)(b:À):It:=⟨λi H=>c3 λys c y=>ao K H b ys/\x.cps[i]?=O c/\ys[i]?=O y,λi H v H'=>c3 λT c y=>v=.ref T/\H T=U/\H'=ab H T (.be [.str ⟨#[c]⟩,y])/\x.cps[i]?=O c/\∀ys,ao K H b ys->ys[i]?=O y,λi H=>x.cps.size<=i⟩
def VO{t}{TI TO:À}(D:vG zp TI TO i1 i2 b):
  jI P w K (.Tuple elts kk ub) (yz K x b) [zp,TI,TO,i1,i2] zp (λi h=>ē h zp TI TO .none/\ú h TI (.ref i1) (.ref i2)/\(c2 λu v=>ú h TO u v)/\h.IsStrIter i1 "str_ascii_iterator" x t i/\h.IsListIter i2 b i) where
 mem:=by simp
 obj:=λi h st c b2=>by
  obtain⟨j,g,⟨u,v,m⟩,⟨C,p,_,d1⟩,⟨o2,e2,_,d2⟩⟩:=st;have F:c=zp\/c=TI\/c=TO\/c=i1\/c=i2:=by simpa using b2
  rcases F with q|q|q|q|q
  .exact q▸⟨_,j,λv q=>nomatch q⟩
  .exact q▸⟨_,g,λv q=>nomatch q⟩
  .exact q▸⟨_,m,λv q=>nomatch q⟩
  .exact q▸⟨C,p,λv q=>by rw[d1]at q;cases q⟩
  .exact q▸⟨o2,e2,λv q=>by rw[d2]at q;cases q⟩
 keep:=λi h h' st k=>by obtain⟨j,g,⟨u,v,m⟩,⟨C,p,r1⟩,h2⟩:=st;exact⟨k zp Gc _ j,k TI Gc _ g,⟨u,v,k TO Gc _ m⟩,⟨C,k i1 Gc _ p,r1⟩,h2.at λo q=>k i2 Gc o q⟩
 item:=by
  intro X G a9 L b2 i pins s z H E I hf st M;subst G a9 L;refine gg λP0 p0=>?_;obtain⟨j,g,⟨x0,y0,m⟩,h1,h2⟩:=st;have⟨ys,c,y,a8,V,W⟩:=M;have⟨iT,Px,p2,_⟩:=I.list a8;obtain⟨B,N,a0⟩:=Px.get W;refine p0 ?_;have Y:zp<s.heap.objs.size:=cG j;refine VM D j g m h1 h2 p2.isList V (by simpa using N) λh' u tk z' R eO B2 hT hk=>⟨_,J,wpAny_letOwnedTupleGo_zip z' λS T n=>?_⟩
  have GH:S.get? s.heap.objs.size=O {cls:=.type "tuple",data:=.seq #[.str ⟨#[c]⟩ u,B]}:=(n.2 _<|Bf Y).trans hT;have new:dM X.prog X.w (ab H s.heap.objs.size<|.be [.str ⟨#[c]⟩,y]) S s.heap.objs.size (.be [.str ⟨#[c]⟩,y]):=
   ⟨Ob,[.str ⟨#[c]⟩ u,B],.cons ⟨u,J⟩<|.cons a0 .nil,⟨_,GH,J,_,J⟩⟩
  have I1:ay X pins z (ab H s.heap.objs.size<|.be [.str ⟨#[c]⟩,y]) {s with heap:=S,toks:=tk}:=
   I.Jw (λd o f q=>(n.2 d λa=>f (by simp[a])).trans<|hk d o (λa=>f (by simp[a])) (λa=>f (by simp[a])) (λa=>f (by simp[a])) (λa=>f (by simp[a])) q) hf (aN _) new
  refine⟨.ref s.heap.objs.size,_,I1,J,⟨_,c,y,J,I.aF.fresh<|aN _,J,V,λl hl=>I.yY hl a8▸W⟩,⟨T,?_,⟨.str ⟨#[c]⟩ u,B,?_⟩,?_,?_⟩,λd b1=>?_⟩
  .exact(n.2 _ D.a1).trans<|hk _ _ D.a1 D.a5 D.a6 D.a7 g
  .exact(n.2 _ D.a2).trans R
  .obtain⟨o,e,r⟩:=eO;exact⟨o,(n.2 _ D.a3).trans e,r⟩
  .exact B2.at λo q=>(n.2 _ D.a4).trans q
  .let aW:d<s.heap.objs.size:=by
    have F:d=zp\/d=TI\/d=TO\/d=i1\/d=i2:=by simpa using b1
    rcases F with q|q|q|q|q
    .exact q▸Y
    .exact q▸cG g
    .exact q▸cG m
    .rw[q];obtain⟨_,p,_⟩:=h1;exact cG p
    .rw[q];have⟨_,e2,_⟩:=h2;exact cG e2
   rw[au<|gm aW];exact(hf d b1).1
 done:=by
  intro X G a9 L b2 i pins s z H E I hf st M;subst G a9 L;obtain⟨j,g,⟨x0,y0,m⟩,h1,h2⟩:=st;have he:x.cps[i]?=none:=F6 M;exact VN (I.ok.hd b2) D j g m h1 he λh' hk=>⟨J,I.Td (λd o f q=>hk d o (λa=>f (by simp[a])) (λa=>f (by simp[a])) (λa=>f (by simp[a])) (λa=>f (by simp[a])) q) hf⟩
 self:=λA i s Q E st h=>Ëd st.1 h
def VP(n b:Nat)(h:b<n):vG (n+4) (n+2) (n+3) n (n+1) b:=by
 constructor
 all_goals
  intro z;lia
inductive VQ'(K:Ñ)(R:It->Hp->Prop)(vs:List V)(H1:Hp):Prop|m(x b ys:_)(_:vs=[.str x,.ref b])(_:x.cps.all (· < 128)=true)(_:ao K H1 b ys)(_:R (yz K x b) H1)
def VQ(K:Ñ)(ta:TA):TI:=λz H R=>ta z H<|VQ' K R
def VR{ta}(j:Gl X "zip")(k:X.mg "zip"=U)(l:PA X [e,e2] ta)(m:Ð [e,e2] X.ah=(false,Ï e X.ah)::Ð [e2] X.ah:=by rfl) (dJ:(æ pos (Ð [e2] X.ah)).any (·.1)=false:=by rfl):PI X (.Tuple elts kk ub) (.Call (.Name "zip" p) [e,e2] [] pos) (VQ X.K ta):=by
 intro pins s z H R I h;refine η<|n8 I j k TJ<|u9 (aM (l pos pins s z H _ I h) λus a ⟨vs,H1,f,n,o⟩=>?_) m dJ;obtain⟨x,b,ys,ex,u,v,q⟩:=o;subst ex;cases n with
 |cons r g=>
  cases g with
  |cons w g=>
   cases g;obtain⟨t,rfl⟩:=r;cases w;have⟨F,G,p2,_⟩:=f.list v;have y:b<a.heap.objs.size:=p2.lt;refine VL u p2.isList λh' i A B h1 h2 hk=>Ëd i ?_;have C:ay X pins z H1 {a with heap:=h'}:=f.cy hk;refine⟨a.heap.objs.size+4,[a.heap.objs.size+4,a.heap.objs.size+2,a.heap.objs.size+3,a.heap.objs.size,a.heap.objs.size+1],_,_,H1,J,C,VO<|VP _ _ y,⟨i,A,⟨_,_,B⟩,h1,h2⟩,λc D=>?_,q⟩;have E:c=a.heap.objs.size+4\/c=a.heap.objs.size+2\/c=a.heap.objs.size+3\/c=a.heap.objs.size\/c=a.heap.objs.size+1:=by simpa using D
   have d:a.heap.objs.size<=c:=by
    rcases E with a0|a0|a0|a0|a0<;>rw[a0]<;>first|exact Èh _ _|exact aN _
   exact f.qY d<|f.aF.fresh d
def VT{tb:TS}{D:iS}(u:x.cps.size<=ys.length)(a:Nat->St->Hp->Prop)(l:a 0 z H)(hk:∀i z H,i<=x.cps.size->a i z H->ao K H b ys)(n:∀i c y T z H,x.cps[i]?=O c->ys[i]?=O y->H T=U->a i z H->g (.ref T) z (ab H T (.be [.str ⟨#[c]⟩,y])) λd H2=>tb {D with nx:=a (i+1),ct:=a (i+1),bk:=D.nx} d H2) (hd:∀z H,a x.cps.size z H->D.nx z H):∃W:Nat->Nat->St->Hp->Prop,(∃m,W 0 m z H)/\∀i m z H,W i m z H->((yz K x b).stop i H/\D.nx z H)\/((yz K x b).go i H/\∃N,(∀f H',N f H'->∃j,j<m/\W (i+1) j f H')/\∀v H',(yz K x b).fU i H v H'->g v z H' λd H2=>tb {D with nx:=N,ct:=N,bk:=D.nx} d H2):=by
 refine⟨λi m z H=>m=x.cps.size-i/\i<=x.cps.size/\a i z H,⟨x.cps.size,Gc,cM _,l⟩,?_⟩;rintro i m z H ⟨rfl,hi,p⟩;have q:=hk i z H hi p;by_cases k:i<x.cps.size
 .have h:i<ys.length:=Z;refine .inr ⟨⟨ys,x.cps[i],ys[i],q,by simp[k],by simp[h]⟩,a (i+1),λf H' o=>⟨x.cps.size-(i+1),Z,J,k,o⟩,λv H' F=>?_⟩;obtain⟨T,c,y,rfl,r,rfl,s,t⟩:=F;exact n i c y T z H s (t ys q) r p
 .have e:i=x.cps.size:=Z;subst e;exact .inl ⟨aN _,hd z H p⟩
section
variable {a b d:â} {k:Nat}
def y1(b:PE X a ta)(h:Ð [a] X.ah=(false,Ï a X.ah)::Ð [] X.ah:=by rfl):PA X [a] (dN ta dF):=bx b cW h
def y2(c:PE X a ta)(d:PE X b tb)(h:Ð [a,b] X.ah=(false,Ï a X.ah)::Ð [b] X.ah:=by rfl)(h2:Ð [b] X.ah=(false,Ï b X.ah)::Ð [] X.ah:=by rfl):PA X [a,b] (dN ta (dN tb dF)):=bx c (y1 d h2) h
def y3(d:PE X a ta)(e:PE X b tb)(f:PE X c tc)(h:Ð [a,b,c] X.ah=(false,Ï a X.ah)::Ð [b,c] X.ah:=by rfl)(h2:Ð [b,c] X.ah=(false,Ï b X.ah)::Ð [c] X.ah:=by rfl)(g:Ð [c] X.ah=(false,Ï c X.ah)::Ð [] X.ah:=by rfl):PA X [a,b,c] (dN ta (dN tb (dN tc dF))):=bx d (y2 e f h2 g) h
def yc(G:Ok X.prog X.w X.K X.mg X.base k x ps sp)(a:cO j X.A)(b:PA X (e::es) t)(c:k<=j:=by decide)(d:Gl X x:=by rfl)(f:(x==("__debug__":Ã))=false:=by decide)(he:Ð (e::es) X.ah=(false,Ï e X.ah)::Ð es X.ah:=by rfl) (dJ:(æ pos (Ð es X.ah)).any (·.1)=false:=by rfl):PE X (.Call (.Name x p) (e::es) [] pos) (rg sp [] E0 t):=cl G (a.dE c) d b f he dJ
def ym(he:PE X o ta)(c:g9 X.K C)(G:cX X.prog X.w X.K X.mg X.base k C m ps sp)(b:cO j X.A)(d:PA X (e::es) t)(g:k<=j:=by decide)(h:Ð (e::es) X.ah=(false,Ï e X.ah)::Ð es X.ah:=by rfl) (dJ:(æ pos (Ð es X.ah)).any (·.1)=false:=by rfl)(i:Ï (.Call (.Attribute o m apos) (e::es) [] pos) X.ah=(do
   let a <-Ï o X.ah
   Ņ apos.atName
   let(f,first) <-ģ [a] (Ţ a m pl)
   μ pos f first (æ pos (Ð (e::es) X.ah)) (Ė pos (ė [] X.ah))):=by rfl):PE X (.Call (.Attribute o m apos) (e::es) [] pos) (oa C m sp [] E0 ta t):=ml he c G (b.dE g) d h dJ i
def yn(he:PE X o ta)(c:g9 X.K C)(G:cX X.prog X.w X.K X.mg X.base k C m ps sp)(b:cO j X.A)(d:k<=j:=by decide)(e:Ï (.Call (.Attribute o m apos) [] [] pos) X.ah=(do
   let a <-Ï o X.ah;Ņ apos.atName;let(f,first) <-ģ [a] (Ţ a m pl);μ pos f first (æ pos (Ð [] X.ah)) (Ė pos (ė [] X.ah))):=by rfl):PE X (.Call (.Attribute o m apos) [] [] pos) (oa C m sp [] E0 ta dF):=ml0 he c G (b.dE d) e
def yf(he:PE X e ta)(a:Ċ e f X.ah (Ï e X.ah)=Ï e X.ah:=by rfl):PE X (.Attribute e f pos) (wq X.K ta f):=Iu he a
def yg(K:Ñ)(he:PE X e ta)(a:X.K=K:=by rfl)(b:Ċ e f X.ah (Ï e X.ah)=Ï e X.ah:=by rfl):PE X (.Attribute e f pos) (wq K ta f):=UO a he b
def yl(c:PE X a ta)(d:PE X b tb)(e:wu b:=by exact λ_ _=>rfl):PE X (.Subscript a b pos) (kT (wv X.K) ta tb):=ug IJ c d e
def yk(K:Ñ)(c:PE X a ta)(d:PE X b tb)(e:X.K=K:=by rfl)(f:wu b:=by exact λ_ _=>rfl):PE X (.Subscript a b pos) (kT (wv K) ta tb):=ug (Kd e) c d f
def yt(c:PE X a ta)(d:PE X b tb)(e:wu b:=by exact λ_ _=>rfl):PE X (.Subscript a b pos) (kT (C7 X.K) ta tb):=ug IK c d e
def yi(c:PE X a ta)(d:PE X b tb)(e:wu b:=by exact λ_ _=>rfl):PE X (.Subscript a b pos) (kT II ta tb):=ug Sg c d e
def ye(b:X.mg "len"=U)(c:PE X a ta)(d:Gl X "len":=by rfl)(h:Ð [a] X.ah=(false,Ï a X.ah)::Ð [] X.ah:=by rfl):PE X (.Call (.Name "len" p) [a] [] pos) (xV (λxs H Q=>c2 λp ys=>xs=[.ref p]/\(ao X.K H p ys\/aV X.K H p ys)/\Q (.int ys.length) H) (dN ta dF)):=eF IN d b mT (y1 c h) gn gn h (by rfl)
def yp(c:dS X (ó op) r)(d:PE X a ta)(e:PE X b tb)(f:ş op b=false:=by first|exact Ie _|with_unfolding_all rfl):PE X (.Compare a [op] [b] pos) (kT r ta tb):=Rw c d e f
def yq(c:dS X (ó op) r)(d:PE X a ta)(e:PE X b tb)(f:ş op b=false:=by first|exact Ie _|with_unfolding_all rfl):PT X (.Compare a [op] [b] pos) (CW (kT r ta tb)):=Rx c d e f
def yr(he:PE X e te):iF X [.Return (O e) pos] (mr te):=bS<|Q_ he
def yw{tc:TT}{t}{a:List Đ}(b:PT X c tc)(d:iF X a t):PS X (.If c a [] pos) (y4 tc t yZ):=pF b d Q9
def ys(i:Nat)(a:X.N.Nodup)(he:PE X e te)(hi:X.N[i]?=O x:=by rfl)(b:sQ X.ah.scope x:=by first|exact Ĵ rfl|exact ī rfl)(c:ō e (O (.Name x pos')) pos.line X.ah=pure false:=by rfl)(d:X.fn x=true\/X.ah.scope.names.lookup x=O .local:=by first|exact .inl rfl|exact .inr rfl|assumption):PS X (.Assign [.Name x pos'] e pos) (t_ te (fu i)):=Rf a hi b he c d
def yx(i:Nat)(a:X.N.Nodup)(hi:X.N[i]?=O x:=by rfl)(b:sQ X.ah.scope x:=by first|exact Ĵ rfl|exact ī rfl)(c:X.fn x=true\/X.ah.scope.names.lookup x=O .local:=by first|exact .inl rfl|exact .inr rfl|assumption):PG X (.Name x pos) (fu i):=Ra a hi b c
def yo{a:List Đ}{tb}(hi:PI X tg iter wi)(b:PG X tg g)(c:iF X a tb)(d:Áf (Í X.prog X.w) X.A X.ah X.xe:=by exact sv)(e:X.gf=true:=by rfl)(f:∀x,Ž iter X.ah x=pure x:=by intro _;rfl):PS X (.For tg iter a [] pos) (CQ wi g tb):=Rs d e hi b c f
def yu(a:PE X o ta)(b:PE X e te)(c:ō e (O (.Attribute o f pos')) pos.line X.ah=pure false:=by rfl):PS X (.Assign [.Attribute o f pos'] e pos) (C0 X.K ta te f):=RO a b c
def yA(b:PE X o ta)(he:PE X e te)(c:Ċ o "append" X.ah (Ï o X.ah)=Ï o X.ah:=by rfl)(d:((æ cf (Ð [e] X.ah)).all (λx=>!x.1)&&(Ė cf (ė [] X.ah)).all (λx=>x.1.isSome)
   &&decide ([e].length+([]:List Ę).length+(if([]:List Ę).isEmpty then 0 else 1)<30))=true:=by rfl)(f:(apos.endLine==cf.line)=true:=by rfl) (a:Ð [e] X.ah=(false,Ï e X.ah)::Ð [] X.ah:=by rfl) (hplain:(æ cf (Ð [] X.ah)).any (·.1)=false:=by rfl) (g:ō (.Call (.Attribute o "append" apos) [e] [] cf) U pos.line X.ah=pure false:=by rfl):PS X (.Expr (.Call (.Attribute o "append" apos) [e] [] cf) pos) (we (sY X.K "list" IT ta (dN te dF))):=gN (pO F.plainAttrs_list Çb F.type_list_append Sy b (y1 he a) c d f a hplain) g
def yv{a:Pos}(i:Nat)(b:X.N.Nodup)(hi:PI X (.Name x a) iter wi)(he:∀s H C cl fp,PE (X.gc s H scope (č scope cl C X.ah) fp) elt te)(c:∀s H C cl fp,PG (X.gc s H scope (č scope cl C X.ah) fp) (.Name x a) (fu i):=by exact λ_ _ _ _ _=>yx _ ‹_›)(ok:zr X.N X.ah.scope scope [(x,i)]=true:=by rfl) (d:X.gf=true:=by rfl) (e:∀x,Ž iter X.ah x=pure x:=by intro _;rfl):PE X (.ListComp elt [⟨.Name x a,iter,[],0⟩] scope pos) (tm wi (fu i) gA te [i]):=wE d b hi (uj ok) c (λ_ _ _ _ _=>Je) he e
def yy{y:Ã}{b a c:Pos}(l i:Nat)(d:X.N.Nodup)(hi:PI X (.Name x a) iter wi)(he:∀s H C cl fp,PE (X.gc s H scope (č scope cl C X.ah) fp) elt te)(e:∀s H C cl fp,PG (X.gc s H scope (č scope cl C X.ah) fp) (.Name x a) (fu i):=by exact λ_ _ _ _ _=>yx _ ‹_›)(ok:zr X.N X.ah.scope scope [(x,i)]=true:=by rfl) (f:X.gf=true:=by rfl) (g:X.N[l]?=O y:=by rfl) (h:X.ah.scope.names.lookup y=O .local:=by rfl)(j:ō (.ListComp elt [⟨.Name x a,iter,[],0⟩] scope pos) (O (.Name y b)) c.line X.ah=pure true:=by rfl) (k:∀x,Ž iter X.ah x=pure x:=by intro _;rfl):PS X (.Assign [.Name y b] (.ListComp elt [⟨.Name x a,iter,[],0⟩] scope pos) c) (t_ (tm wi (fu i) gA te [i]) (fu l)):=SQ f d g h j hi (uj ok) e (λ_ _ _ _ _=>Je) he k
end
def DF(K:Ñ)(mg:Ã->Option Á)(x:Ã)(st:Đ):Prop:=c2 λf fd=>p0 K x x st f fd/\mg x=O (.ref f)
def DM(K:Ñ)(C:À)(x q:Ã)(st:Đ):Prop:=c2 λf fd=>p0 K x q st f fd/\wp K C x f
def DI(K:Ñ)(mg:Ã->Option Á)(C:À)(x q:Ã)(st:Đ):Prop:=c2 λf fd=>p0 K "__init__" q st f fd/\mg x=O (.ref C)/\Mk K C f
def yB{P:List Ã}(h1:sc.kind=.function:=by rfl)(h2:sc.isCoroutine=false:=by rfl)(a:sc.isGenerator=false:=by rfl)(b:N.Nodup:=by decide+kernel)(c:N.take P.length=P:=by rfl)(d:∀x∈P,sc.names.lookup x=O .local\/sc.names.lookup x=O .cell:=by decide+kernel)(e:∀y∈sc.names,y.2≠.free:=by decide+kernel):rh N P sc:=⟨h1,h2,a,b,c,d,e⟩
section
variable {k:Nat}
structure eo where(f:À)(c:Á)(A:ń)(b:List Ă)(s:Ì)(E:XK)
noncomputable def eu(P:ò)(w:è)(K:Ñ)(mg:Ã->Option Á)(base:á)(N:List Ã)(q:Ã)(st:Đ)(y:eo)(H:Hp):Cx:=(rj pd P w K mg base N q (gP st) y.f y.c y.A y.b y.s H y.E).xT
def ey(Q:VK):iS:={nx:=λ_ H=>Q .aQ H,rt:=Q}
def Bd(P:ò)(w:è)(K:Ñ)(mg:Ã->Option Á)(base:á)(N:List Ã)(q:Ã)(st:Đ)(k:Nat)(sp:Sp):Prop:=∀{y:eo}H vs Q,N.Nodup->cO k (eu P w K mg base N q st y H).A->sp vs H Q y.E->∃t,iF (eu P w K mg base N q st y H) (kr st) t/\t (ey Q) (start N vs) H
def bh(N:List Ã)(D:DF K mg x st)(b:Bd P w K mg base N x st k sp)(len:∀vs H Q E,sp vs H Q E->vs.length=ps.length:=by intro _ _ _ _ h;cases h;subst_vars;rfl)(a:∀kV doc pm an cC ct us,us.length=ps.length->ϕ (Ī x x (mz st) (kr st) (gP st) .none kV doc pm an cC ct) ⟨us,[]⟩=pure (ps.zip us):=by intro _ _ _ _ _ _;exact aZ (by(repeat intro _);rfl)) (sc:rh N ps (gP st):=by exact yB):Ok P w K mg base (k+1) x ps sp:=by
 obtain⟨f,fd,F,d⟩:=D;exact⟨f,fd,F.ok sc len λcC A b0 s H vs Q E e h=>b (y:=⟨_,cC,A,b0,s,E⟩) H vs Q sc.nd e h,d,F.kp,F.og a⟩
def dB(N:List Ã)(D:DM K C x q st)(b:Bd P w K mg base N q st k sp)(len:∀vs H Q E,sp vs H Q E->vs.length=ps.length:=by intro _ _ _ _ h;cases h;subst_vars;rfl)(a:∀kV doc pm an cC ct us,us.length=ps.length->ϕ (Ī x q (mz st) (kr st) (gP st) .none kV doc pm an cC ct) ⟨us,[]⟩=pure (ps.zip us):=by intro _ _ _ _ _ _;exact aZ (by(repeat intro _);rfl)) (sc:rh N ps (gP st):=by exact yB):cX P w K mg base (k+1) C x ps sp:=by
 obtain⟨f,fd,F,d⟩:=D;exact⟨f,fd,F.ok sc len λcC A b0 s H vs Q E e h=>b (y:=⟨_,cC,A,b0,s,E⟩) H vs Q sc.nd e h,d,F.og a⟩
def yC(N:List Ã)(D:DI K mg C x q st)(b:Bd P w K mg base N q st k sp)(len:∀vs H Q E,sp vs H Q E->vs.length=ps.length:=by intro _ _ _ _ h;cases h;subst_vars;rfl)(a:∀kV doc pm an cC ct us,us.length=ps.length->ϕ (Ī "__init__" q (mz st) (kr st) (gP st) .none kV doc pm an cC ct) ⟨us,[]⟩=pure (ps.zip us):=by intro _ _ _ _ _ _;exact aZ (by(repeat intro _);rfl)) (sc:rh N ps (gP st):=by exact yB):qH P w K mg base (k+1) x C ps sp:=by
 obtain⟨f,fd,F,d,M⟩:=D;exact⟨f,fd,F.ok sc len λcC A b0 s H vs Q E e h=>b (y:=⟨_,cC,A,b0,s,E⟩) H vs Q sc.nd e h,d,M,F.og a⟩
end
end L2
noncomputable section
section
open Vaneta
inductive aav where
 |paren
 |gs
 |ofc
 |whn
 |two (c:UInt8) (A:Â)
 |dU (A:Â)
abbrev bQ:=List aav
abbrev dh:=bQ×Option Â
noncomputable def dH:bQ->Â->bQ×Â
|.gs::S,A=>dH S<|Æ A
|.ofc::S,A=>dH S<|.ofc A
|.whn::S,A=>dH S<|.whn A
|S,A=>(S,A)
noncomputable def fM:bQ->Â->bQ×Â
|.two c B::S,A=>fM S<|two c B A
|S,A=>(S,A)
def rD:bQ->Â->bQ×Â
|.dU B::S,A=>rD S<|.par (Æ B) A
|S,A=>(S,A)
def fG(S:bQ)(A:Â):bQ×Formula:=rD (fM S A).1 (fM S A).2
def lr(x:bQ×Â):dh:=(x.1,O x.2)
noncomputable def mC(S:bQ):ä->Option dh
|.name a=>O<|lr<|dH S<|.atom false a
|.sign c=>if c=40 then O (.paren::S,U)else if c=126 then O (.gs::S,U)else if c=33 then O (.ofc::S,U)else if c=63 then O (.whn::S,U)else U
|.arrow=>U
noncomputable def mD(S:bQ)(A:Â)(c:UInt8):Option dh:=match S with
 |.two e B::R=>if e=c then O (.two c A::.two e B::R,U)else U
 |S=>O (.two c A::S,U)
def p7(x:bQ×Â):Option dh:=match x with
 |(.paren::R,B)=>O<|lr<|dH R B
 |_=>U
noncomputable def gD(S:bQ)(A:Â):ä->Option dh
|.sign c=>if ô c=true then mD S A c else if c=41 then p7 (fG S A)else U
|.arrow=>O (.dU (fM S A).2::(fM S A).1,U)
|.name _=>U
def aay(x:dh):Option dh:=if x.1.length<=100 then O x else U
noncomputable def abt(st:dh)(t:ä):Option dh:=(match st with
 |(S,U)=>mC S t
 |(S,O A)=>gD S A t).bind aay
def acN:dh->Option Â
|(_,U)=>U
|(S,O A)=>match fG S A with
 |([],B)=>O B
 |_=>U
def ade:dh->List ä->Option Â
|st,[]=>acN st
|st,t::r=>(abt st t).bind λx=>ade x r
def rE:ä->Bool
|.sign c=>ô c
|_=>false
def DP:ä->Bool
|.arrow=>true
|_=>false
def k1(S:bQ)(A:Â)(r:List ä):Option Formula:=if(r.head?).any rE=true then U else ade (S,O A) r
def k0(S:bQ)(A:Â)(r:List ä):Option Formula:=if(r.head?).any rE=true\/(r.head?).any DP=true then U else ade (S,O A) r
def k2(S:bQ)(A:Â)(r:List ä):Option Formula:=ade (lr<|dH S A) r
theorem wQ:∀(S:bQ)(A:Â),(dH S A).1.length<=S.length
|[],A|.paren::S,A|.two c B::S,A|.dU B::S,A=>by simp[dH]
|.gs::S,A=>by simp only[dH];have:=wQ S<|Æ A;simp only[aJ];lia
|.ofc::S,A=>by simp only[dH];have:=wQ S<|.ofc A;simp only[aJ];lia
|.whn::S,A=>by simp only[dH];have:=wQ S<|.whn A;simp only[aJ];lia
noncomputable def gQ:bQ->Bool
|[]|.paren::_|.dU _::_=>true
|_=>false
def iU(c:UInt8):bQ->Bool
|.two e _::_=>e==c
|S=>c==0&&gQ S
def VU(h:ô c=true):c≠0:=by intro e;subst e;revert h;decide
def KA(h:gQ S=true):fM S A=(S,A):=by
 match S,h with
 |[],_|.paren::_,_|.dU _::_,_=>rfl
def VW(h:iU c S=true):dH S A=(S,A):=by
 match S,h with
 |[],_|.paren::_,_|.dU _::_,_|.two _ _::_,_=>rfl
 |.gs::_,h|.ofc::_,h|.whn::_,h=>simp[iU,gQ]at h
def KB(c)(B)(S)(A):fG (.two c B::S) A=fG S (two c B A):=rfl
def KC{S}(B A)(h:gQ S=true):fG (.dU B::S) A=fG S (.par (Æ B) A):=by unfold fG;rw[KA h];rfl
def VX(h:¬(r.head?).any rE=true):ade (.two c B::S,O A) r=ade (S,O (two c B A)) r:=by
 match r,h with
 |[],_=>simp[ade,acN,KB]
 |.sign e::r,h=>let h:¬ô e=true:=h;simp[ade,abt,gD,KB,ai h]
 |.arrow::r,_=>simp[ade,abt,gD,fM]
 |.name a::r,_=>simp[ade,abt,gD]
def VY{B}{S}{A}{r}(b:gQ S=true)(h:¬((r.head?).any rE=true\/(r.head?).any DP=true)):ade (.dU B::S,O A) r=ade (S,O (.par (Æ B) A)) r:=by
 match r,h with
 |[],_=>simp[ade,acN,KC _ _ b]
 |.sign e::r,h=>
  let h:¬ô e=true:=λq=>h<|.inl q;simp[ade,abt,gD,KC _ _ b,ai h]
 |.arrow::r,h=>exact absurd (.inr J) h
 |.name a::r,_=>simp[ade,abt,gD]
theorem mE:∀(f k:Nat)(c:UInt8)(d:Nat)(i:List ä)(A:Â)(r:List ä),ñ f k c d i=O (A,r)->r.length<i.length
|0=>λ_ _ _ _ _ _ h=>by simp[ñ]at h
|f+1=>λk c d i A r h=>by
 unfold ñ at h;split at h
 .
  cases e:ñ f 1 0 d i with
  |none=>rw[e]at h;simp at h
  |some x=>
   have g:=mE f 1 0 d i x.1 x.2 (by rw[e]);rw[e]at h;simp only[Option.bind_some]at h;split at h
   next b l=>
    split at h
    .cases e2:ñ f 0 0 (d+1) b with
     |none=>rw[e2]at h;simp at h
     |some y=>have j:=mE f 0 0 (d+1) b y.1 y.2 (by rw[e2]);rw[e2]at h;simp only[qz,l6,sx]at h;rw[<-h.2];rw[l]at g;simp only[aJ]at g;lia
    .simp at h
   next=>simp only[l6]at h;rw[h]at g;exact g
 .split at h
  .cases e:ñ f 2 0 d i with
   |none=>rw[e]at h;simp at h
   |some x=>
    have g:=mE f 2 0 d i x.1 x.2 (by rw[e]);rw[e]at h;simp only[Option.bind_some]at h;split at h
    next m b l=>
     split at h
     .split at h
      .cases e2:ñ f 1 m (d+1) b with
       |none=>rw[e2]at h;simp at h
       |some y=>have j:=mE f 1 m (d+1) b y.1 y.2 (by rw[e2]);rw[e2]at h;simp only[qz,l6,sx]at h;rw[<-h.2];rw[l]at g;simp only[aJ]at g;lia
      .simp at h
     .simp only[l6]at h;rw[h]at g;exact g
    next=>simp only[l6]at h;rw[h]at g;exact g
  .split at h
   next a b=>simp only[l6,sx]at h;rw[<-h.2];simp
   next m b=>
    split at h
    .split at h
     .cases e:ñ f 2 0 (d+1) b with
      |none=>rw[e]at h;simp at h
      |some y=>have j:=mE f 2 0 (d+1) b y.1 y.2 (by rw[e]);rw[e]at h;simp only[qz,l6,sx]at h;rw[<-h.2];simp only[aJ];lia
     .split at h
      .cases e:ñ f 2 0 (d+1) b with
       |none=>rw[e]at h;simp at h
       |some y=>have j:=mE f 2 0 (d+1) b y.1 y.2 (by rw[e]);rw[e]at h;simp only[qz,l6,sx]at h;rw[<-h.2];simp only[aJ];lia
      .split at h
       .cases e:ñ f 2 0 (d+1) b with
        |none=>rw[e]at h;simp at h
        |some y=>have j:=mE f 2 0 (d+1) b y.1 y.2 (by rw[e]);rw[e]at h;simp only[qz,l6,sx]at h;rw[<-h.2];simp only[aJ];lia
       .split at h
        .cases e:ñ f 0 0 (d+1) b with
         |none=>rw[e]at h;simp at h
         |some y=>
          have j:=mE f 0 0 (d+1) b y.1 y.2 (by rw[e]);rw[e]at h;simp only[Option.bind_some]at h;split at h
          next s l=>simp only[l6,sx]at h;rw[<-h.2];rw[l]at j;simp only[aJ]at j⊢;lia
          next=>simp at h
        .simp at h
    .simp at h
   next=>simp at h
def KD(S:bQ)(x:Option (Â×List ä)):Option Formula:=x.bind λy=>k1 S y.1 y.2
def KE(S:bQ)(x:Option (Â×List ä)):Option Formula:=x.bind λy=>k0 S y.1 y.2
def KF(S:bQ)(x:Option (Â×List ä)):Option Formula:=x.bind λy=>k2 S y.1 y.2
def DQ(h:x.1.length<=100):aay x=O x:=by unfold aay;rw[aj h]
def VZ(h:100<x.1.length):aay x=none:=by unfold aay;rw[ai Z]
def uv(h:S.length<100):((O ((w::S,U):dh)).bind aay).bind (λx=>ade x r)=ade (w::S,U) r:=by simp;rw[DQ (by simp;lia)];rfl
def uw(h:¬S.length<100):((O ((w::S,U):dh)).bind aay).bind (λx=>ade x r)=none:=by simp only[Option.bind_some];rw[VZ (by simp;lia)];rfl
def eJ:bQ->Prop
|[]=>True
|.two c _::S=>ô c=true/\eJ S
|_::S=>eJ S
def V0(h:gQ S=true):iU 0 S=true:=by
 match S,h with
 |[],_|.paren::_,_|.dU _::_,_=>rfl
theorem ol:∀(f:Nat),(∀(d:Nat)(S:bQ)(c:UInt8)(b:List ä),S.length=d->d<=100->eJ S->3*b.length+1<=f->ade (S,U) b=KF S (ñ f 2 c d b))/\(∀(d:Nat)(S:bQ)(c:UInt8)(b:List ä),S.length=d->d<=100->eJ S->iU c S=true->3*b.length+2<=f->ade (S,U) b=KD S (ñ f 1 c d b))/\(∀(d:Nat)(S:bQ)(c:UInt8)(b:List ä),S.length=d->d<=100->eJ S->gQ S=true->3*b.length+3<=f->ade (S,U) b=KE S (ñ f 0 c d b))
|0=>⟨λ_ _ _ _ _ _ _ h=>by lia,λ_ _ _ _ _ _ _ _ h=>by lia,λ_ _ _ _ _ _ _ _ h=>by lia⟩
|f+1=>by
 obtain⟨i2,i1,E⟩:=ol f;refine⟨?_,?_,?_⟩
 .intro d S c b hd u ok z;unfold ñ;rw[ai gn,ai gn]
  match b with
  |[]|.arrow::r=>rfl
  |.name a::r=>
   show((O<|lr<|dH S<|.atom false a).bind aay).bind (λx=>ade x r)=ade (lr<|dH S<|.atom false a) r;let:=wQ S<|.atom false a;simp only[Option.bind_some];rw[DQ (by show(dH S<|.atom false a).1.length<=100;lia)];rfl
  |.sign e::r=>
   simp only[aJ]at z;show((mC S<|.sign e).bind aay).bind (λx=>ade x r)=_;simp only[mC];by_cases j:d<OPEN
   .let i:S.length<100:=by rw[hd];exact j
    rw[aj j];by_cases A:e=126
    .subst A;rw[ai gn,aj J,aj J,uv i,i2 (d+1) (.gs::S) 0 r (by simp[hd]) (by show d+1<=100;lia) ok Z];cases ñ f 2 0 (d+1) r<;>rfl
    by_cases C:e=33
    .subst C;rw[ai gn,ai gn,aj J,ai gn,aj J,uv i,i2 (d+1) (.ofc::S) 0 r (by simp[hd]) (by show d+1<=100;lia) ok Z];cases ñ f 2 0 (d+1) r<;>rfl
    by_cases GM:e=63
    .subst GM;rw[ai gn,ai gn,ai gn,aj J,ai gn,ai gn,aj J,uv i,i2 (d+1) (.whn::S) 0 r (by simp[hd]) (by lia) ok Z];cases ñ f 2 0 (d+1) r<;>rfl
    by_cases D:e=40
    .subst D;rw[aj J,ai gn,ai gn,ai gn,aj J,uv i,E (d+1) (.paren::S) 0 r (by simp[hd]) (by lia) ok J Z];cases ñ f 0 0 (d+1) r with
     |none=>rfl
     |some y=>
      show k0 (.paren::S) y.1 y.2=KF S (match y.2 with |.sign 41::s=>O (y.1,s)|_=>U)
      split
      next s k=>
       rw[k];unfold k0;rw[ai (by show ¬(ô 41=true\/false=true);decide)];show((O<|lr<|dH S y.1).bind aay).bind (λx=>ade x s)=ade (lr<|dH S y.1) s;let:=wQ S y.1;simp only[Option.bind_some];rw[DQ (by show(dH S y.1).1.length<=100;lia)];rfl
      next k=>
       unfold k0
       split
       .rfl
       next m=>
        match p:y.2,m with
        |[],_|.name a::q,_=>rfl
        |.arrow::q,m=>exact absurd (.inr J) m
        |.sign g::q,m=>
         show((gD _ _ _).bind aay).bind _=U;unfold gD;simp only;rw[ai<|show ¬ô g=true from λh=>m<|.inl h,ai λh=>by subst h;exact k q p];rfl
    rw[ai D,ai A,ai C,ai GM,ai A,ai C,ai GM,ai D];rfl
   .let i:¬S.length<100:=by rw[hd];exact j
    rw[ai j];show _=U
    split
    .exact uw i
    split
    .exact uw i
    split
    .exact uw i
    split
    .exact uw i
    rfl
 .intro d S c b hd u ok l z;unfold ñ;rw[ai gn,aj J,i2 d S 0 b hd u ok Z];cases e:ñ f 2 0 d b with
  |none=>rfl
  |some x=>
   let t:=mE f 2 0 d b x.1 x.2 (by rw[e]);show k2 S x.1 x.2=KD S (match x.2 with |.sign e::r=>if ô e=true/\(c=0\/c=e)then(if d<OPEN then(ñ f 1 e (d+1) r).map λy=>(two e x.1 y.1,y.2)else U)else O x|_=>O x);unfold k2;rw[VW l];show ade (S,O x.1) x.2=_
   split
   next g r k=>
    rw[k]at t⊢;simp only[aJ]at t;by_cases o:ô g=true
    .show((gD S x.1<|.sign g).bind aay).bind (λx=>ade x r)=_;unfold gD;simp only;rw[aj o];by_cases n:c=0\/c=g
     .rw[aj ⟨o,n⟩];let F:mD S x.1 g=O (.two g x.1::S,U):=by
       match S,l,ok with
       |[],_,_|.paren::_,_,_|.dU _::_,_,_=>rfl
       |.two a B::R,l,ok=>
        let v:a=c:=eq_of_beq l;let:a=g:=by
         rcases n with h0|h0
         .exact absurd (v.trans h0)<|VU ok.1
         .exact v.trans h0
        show(if a=g then _ else _)=_;rw[aj this]
       |.gs::_,h,_|.ofc::_,h,_|.whn::_,h,_=>simp[iU,gQ]at h
      rw[F];by_cases j:d<OPEN
      .let i:S.length<100:=by rw[hd];exact j
       rw[aj j,uv i,i1 (d+1) (.two g x.1::S) g r (by simp[hd]) (by lia) ⟨o,ok⟩ (by exact sk g) Z];cases ñ f 1 g (d+1) r with
       |none=>rfl
       |some y=>
        show k1 (.two g x.1::S) y.1 y.2=k1 S (two g x.1 y.1) y.2;unfold k1
        split
        .rfl
        next m=>exact VX m
      .let i:¬S.length<100:=by rw[hd];exact j
       rw[ai j,uw i];rfl
     .rw[ai λh=>n h.2];show _=k1 S x.1 x.2;unfold k1;rw[k,aj<|show(ω<|Ëe g::r).any rE=true from o]
      match S,l with
      |.two a B::R,l=>
       let v:a=c:=eq_of_beq l;let:¬a=g:=λh=>n<|.inr<|v.symm.trans h;show((if a=g then _ else _:Option dh).bind aay).bind _=U;rw[ai this];rfl
      |[],h|.paren::_,h|.dU _::_,h=>simp[iU,gQ]at h;exact absurd (.inl h) n
      |.gs::_,h|.ofc::_,h|.whn::_,h=>simp[iU,gQ]at h
    .rw[ai λh=>o h.1];show _=k1 S x.1 x.2;unfold k1;rw[k,ai<|show ¬(ω<|Ëe g::r).any rE=true from o]
   next k=>
    show _=k1 S x.1 x.2;unfold k1;rw[ai];intro h
    match p:x.2,h with
    |.sign g::r,_=>exact k g r p
 .intro d S c b hd u ok l z;unfold ñ;rw[aj J,i1 d S 0 b hd u ok (V0 l) Z];cases e:ñ f 1 0 d b with
  |none=>rfl
  |some x=>
   let t:=mE f 1 0 d b x.1 x.2 (by rw[e]);show k1 S x.1 x.2=KE S (match x.2 with |.arrow::r=>if d<OPEN then(ñ f 0 0 (d+1) r).map λy=>(.par (Æ x.1) y.1,y.2)else U|_=>O x)
   split
   next r k=>
    rw[k]at t⊢;simp only[aJ]at t;unfold k1;rw[ai (by show ¬false=true;decide)];show((O ((.dU (fM S x.1).2::(fM S x.1).1,U):dh)).bind aay).bind (λx=>ade x r)=_;rw[KA l];by_cases j:d<OPEN
    .let i:S.length<100:=by rw[hd];exact j
     rw[aj j,uv i,E (d+1) (.dU x.1::S) 0 r (by simp[hd]) (by show d+1<=100;lia) ok J Z];cases ñ f 0 0 (d+1) r with
     |none=>rfl
     |some y=>
      show k0 (.dU x.1::S) y.1 y.2=k0 S (.par (Æ x.1) y.1) y.2;unfold k0
      split
      .rfl
      next m=>exact VY l m
    .let i:¬S.length<100:=by rw[hd];exact j
     rw[ai j,uw i];rfl
   next k=>
    show _=k0 S x.1 x.2;unfold k0 k1;let:¬(x.2.head?).any DP=true:=by
     intro h
     match p:x.2,h with
     |.arrow::r,_=>exact k r p
    by_cases w:(x.2.head?).any rE=true
    .rw[aj w,aj<|.inl w]
    .rw[ai w,ai λh=>h.elim w this]
def V1(b):ade ([],U) b=formulaIn b:=by
 rw[(ol (4*(b.length+1))).2.2 0 [] 0 b J Gc dO J Z];unfold formulaIn;cases ñ (4*(b.length+1)) 0 0 0 b with
 |none=>rfl
 |some x=>
  obtain⟨A,r⟩:=x;show k0 [] A r=_;unfold k0;match r with
  |[]|.name a::r|.arrow::r=>rfl
  |.sign g::r=>
   split
   .rfl
   next c=>show((gD [] A<|.sign g).bind aay).bind _=U;unfold gD;simp only;rw[ai<|show ¬ô g=true from λh=>c<|.inl h];split<;>rfl
end
section
open Vaneta
def aE:Â->Bool
|.atom _ a=>Õ a
|.tensor A B|.par A B|.wth A B|.plus A B=>aE A&&aE B
|.ofc A|.whn A=>aE A
theorem gh:∀A:Â,aE (Æ A)=aE A
|.atom _ _=>rfl
|.tensor A B|.par A B|.wth A B|.plus A B=>by simp only[Æ,aE,gh A,gh B]
|.ofc A|.whn A=>by simp only[Æ,aE,gh A]
theorem lu:∀A:Â,Æ (Æ A)=A
|.atom n _=>by simp[Æ]
|.tensor A B|.par A B|.wth A B|.plus A B=>by simp only[Æ,lu A,lu B]
|.ofc A|.whn A=>by simp only[Æ,lu A]
def zU(h:Õ a=true):c2 λc r=>a=c::r/\Ķ c=true:=by
 unfold Õ at h;simp[aS]at h;cases a with
 |nil=>simp at h
 |cons c r=>exact⟨c,r,J,by simpa using h.1⟩
def KG(h:Ķ c=true):c≠126/\c≠40/\c≠33/\c≠63:=by refine⟨?_,?_,?_,?_⟩<;>(intro e;subst e;revert h;decide)
end
section
open Vaneta
theorem DS:∀(n:Nat)(t:Ä)(f g:Nat),t.length<=n->t.length<f->t.length<g->Ĕ f t=Ĕ g t
|n,[],f+1,g+1,_,_,_=>rfl
|0,c::r,_,_,h,_,_=>by simp at h
|n+1,c::r,f+1,g+1,a,hf,b=>by
 simp only[aJ]at a hf b;have d:=DS n r f g Z Z Z;unfold Ĕ;rw[d];have h1:∀s:Ä,s.length<=r.length->Ĕ f s=Ĕ g s:=λs h=>DS n s f g Z Z Z;have h2:Ĕ f (r.dropWhile Ü)=Ĕ g (r.dropWhile Ü):=h1 _<|vj<|sy _;rw[h2];split
 .rfl
 split
 .rfl
 split
 .split
  next s=>rw[h1 s Gc]
  .rfl
 .rfl
|_,[],0,_,_,h,_|_,[],_,0,_,_,h|_,_::_,0,_,_,h,_|_,_::_,_,0,_,_,h=>by simp at h
def tk(t:Ä):Option (List ä):=Ĕ (t.length+1) t
def DT:tk []=O []:=rfl
def KH{t}{f:Nat}(h:t.length<f):Ĕ f t=tk t:=DS t.length t f _ (aN _) h<|FS _
def wR(r):tk (32::r)=tk r:=rfl
def ux{c}(r)(h:Ą c=true):tk (c::r)=(tk r).map λl=>.sign c::l:=by
 let h1:¬c=32:=by intro e;subst e;revert h;decide
 show Ĕ (r.length+1+1) (c::r)=_;unfold Ĕ;rw[ai h1,aj h];rfl
def uy(s):tk (45::111::s)=(tk s).map λl=>.arrow::l:=by
 let e:=KH (t:=s) (f:=(111::s).length+1) (by simp;lia);show(Ĕ ((111::s).length+1) s).map _=_;rw[e]
def uz(h:Ü c=true):tk (c::r)=if Õ (c::r.takeWhile Ü)=true then(tk (r.dropWhile Ü)).map λl=>.name (c::r.takeWhile Ü)::l else none:=by
 have h1:¬c=32:=by intro e;subst e;revert h;decide
 have h2:¬Ą c=true:=by intro q;unfold Ą at q;simp[jV]at q;rcases q with e|e|e|e|e|e|e|e|e<;>subst e<;>revert h<;>decide
 have a:¬c=45:=by intro e;subst e;revert h;decide
 have e:=KH (t:=r.dropWhile Ü)<|Nat.lt_succ_of_le<|vj<|sy _;show Ĕ (r.length+1+1) (c::r)=_;unfold Ĕ;rw[ai h1,ai h2,ai a,aj h,e]
def rF(h1:¬c=32)(h2:¬Ą c=true)(a:¬(c=45/\r.head? =O 111))(b:¬Ü c=true):tk (c::r)=none:=by
 show Ĕ (r.length+1+1) (c::r)=_;unfold Ĕ;rw[ai h1,ai h2];split
 next h=>
  split
  next s=>exact absurd ⟨h,J⟩ a
  next=>rfl
 .first|rfl|rw[ai b]
def wS(t):ĕ t=if BYTES<t.length then U else(tk t).bind (ade ([],U)):=by
 unfold ĕ;split
 .rfl
 .show(tk t).bind formulaIn=_;rw[show(ade ([],U))=formulaIn from qv V1]
def tw:ä->Bool
|.name a=>Õ a
|_=>true
theorem uA:∀(n:Nat)(t:Ä)(l:List ä),t.length<=n->tk t=O l->l.all tw=true
|_,[]=>λl _ h=>by rw[DT]at h;cases h;rfl
|0,c::r=>λ_ h _=>by simp at h
|n+1,c::r=>λl b h=>by
 simp only[aJ]at b;by_cases h1:c=32
 .subst h1;rw[wR]at h;exact uA n r l Z h
 by_cases h2:Ą c=true
 .rw[ux r h2]at h;cases e:tk r with
  |none=>rw[e]at h;cases h
  |some m=>rw[e]at h;cases h;let:=uA n r m Z e;simp[tw,this]
 by_cases d:Ü c=true
 .rw[uz d]at h;split at h
  next f=>
   cases e:tk (r.dropWhile Ü)with
   |none=>rw[e]at h;exact eG h
   |some m=>rw[e]at h;cases h;let g:(r.dropWhile Ü).length<=r.length:=vj (sy _);let:=uA n _ m Z e;simp[tw,this,f]
  .cases h
 by_cases a:c=45/\r.head? =O 111
 .obtain⟨rfl,a⟩:=a;match r,a with
  |_::s,a=>
   cases a;rw[uy]at h;cases e:tk s with
   |none=>rw[e]at h;cases h
   |some m=>rw[e]at h;cases h;simp only[aJ]at b;let:=uA n s m Z e;simp[tw,this]
 .rw[rF h1 h2 a d]at h;cases h
def qL:aav->Bool
|.two _ A|.dU A=>aE A
|_=>true
def fc(S:bQ):Bool:=S.all qL
noncomputable def wt:aav->Nat
|.two _ A|.dU A=>1+Å A
|.ofc|.whn=>1
|_=>0
def fV:bQ->Nat
|[]=>0
|w::S=>wt w+fV S
theorem fN:∀A:Â,Å (Æ A)=Å A
|.atom _ _=>rfl
|.tensor A B|.par A B|.wth A B|.plus A B=>by simp only[Æ,Å,fN A,fN B]
|.ofc A|.whn A=>by simp only[Æ,Å,fN A]
def zV(c)(A B):Å (two c A B)=1+Å A+Å B:=by
 unfold two;split
 .rfl
 split
 .rfl
 split<;>rfl
def zW(c)(A B):aE (two c A B)=(aE A&&aE B):=by
 unfold two;split
 .rfl
 split
 .rfl
 split<;>rfl
structure aao(n:Nat)(S:bQ)(A:Â):Prop where
 s:fc S=true
 a:aE A=true
 n:fV S+Å A<=n
theorem aao.part{n:Nat}:∀{S:bQ}{A:Â},aao n S A->aao n (dH S A).1 (dH S A).2
|[],_,h|.paren::S,A,h|.two _ _::S,A,h|.dU _::S,A,h=>h
|.gs::S,A,⟨h1,h2,a⟩=>by simp only[fc,d7,aS]at h1;exact aao.part (S:=S) (A:=Æ A) ⟨h1.2,by rw[gh];exact h2,by rw[fN];simp only[fV,wt]at a;lia⟩
|.ofc::S,A,⟨h1,h2,a⟩=>by simp only[fc,d7,aS]at h1;exact aao.part (S:=S) (A:=.ofc A) ⟨h1.2,h2,by simp only[fV,wt,Å]at a⊢;lia⟩
|.whn::S,A,⟨h1,h2,a⟩=>by simp only[fc,d7,aS]at h1;exact aao.part (S:=S) (A:=.whn A) ⟨h1.2,h2,by simp only[fV,wt,Å]at a⊢;lia⟩
theorem aao.chain{n:Nat}:∀{S:bQ}{A:Â},aao n S A->aao n (fM S A).1 (fM S A).2
|[],_,h|.gs::S,A,h|.ofc::S,A,h|.whn::S,A,h|.paren::S,A,h|.dU _::S,A,h=>h
|.two c B::S,A,⟨h1,h2,a⟩=>by simp only[fc,d7,aS]at h1;exact aao.chain (S:=S) (A:=two c B A) ⟨h1.2,by rw[zW,aS];exact⟨h1.1,h2⟩,by rw[zV];simp only[fV,wt]at a;lia⟩
theorem aao.KI{n:Nat}:∀{S:bQ}{A:Â},aao n S A->aao n (rD S A).1 (rD S A).2
|[],_,h|.gs::S,A,h|.ofc::S,A,h|.whn::S,A,h|.paren::S,A,h|.two _ _::S,A,h=>h
|.dU B::S,A,⟨h1,h2,a⟩=>by simp only[fc,d7,aS]at h1;exact aao.KI (S:=S) (A:=.par (Æ B) A) ⟨h1.2,by simp only[aE,gh,aS];exact⟨h1.1,h2⟩,by simp only[Å,fN];simp only[fV,wt]at a;omega⟩
def aao.B5{n:Nat}{S}{A}(h:aao n S A):aao n (fG S A).1 (fG S A).2:=aao.KI<|aao.chain h
def tz(n:Nat):dh->Prop
|(S,U)=>fc S=true/\fV S<=n
|(S,O A)=>aao n S A
def tz.take{x y}{t}(h:tz n x)(d:tw t=true)(e:abt x t=O y):tz (n+1) y:=by
 have f:∀o,o.bind aay=O y->o=O y:=by
  intro o q;cases o with
  |none=>cases q
  |some z=>
   simp only[Option.bind_some,aay]at q;split at q
   .exact q
   .cases q
 have e:=f _ e;match x,h,e with
 |(S,U),h,e=>
  have e:mC S t=O y:=e;cases t with
  |arrow=>cases e
  |name a=>
   have e:O (lr<|dH S<|.atom false a)=O y:=e;cases e;exact(aao.part (n:=n+1) (S:=S) (A:=.atom false a) ⟨h.1,d,by have:=h.2;simp only[Å];lia⟩)
  |sign c=>
   unfold mC at e;simp only at e;have h1:=h.1;have h2:=h.2;unfold fc at h1;split at e
   .cases e;exact⟨by simp[fc,qL,h1],by simp only[fV,wt];lia⟩
   split at e
   .cases e;exact⟨by simp[fc,qL,h1],by simp only[fV,wt];lia⟩
   split at e
   .cases e;exact⟨by simp[fc,qL,h1],by simp only[fV,wt];lia⟩
   split at e
   .cases e;exact⟨by simp[fc,qL,h1],by simp only[fV,wt];lia⟩
   .cases e
 |(S,O A),h,e=>
  have e:gD S A t=O y:=e;cases t with
  |name a=>cases e
  |arrow=>
   have e:O (((.dU (fM S A).2::(fM S A).1,U)))=O y:=e;cases e;have q:=aao.chain h;exact⟨by have:=q.s;unfold fc at this;simp[fc,qL,q.a,this],by have:=q.n;simp only[fV,wt];lia⟩
  |sign c=>
   unfold gD at e;simp only at e;have h:aao n S A:=h;have h1:=h.s;have h2:=h.a;have k:=h.n;unfold fc at h1;split at e
   .unfold mD at e;split at e
    .split at e
     .cases e;exact⟨by simp[fc,qL,h2,h1]at*,by simp only[fV,wt]at*;lia⟩
     .cases e
    .cases e;exact⟨by simp[fc,qL,h2,h1],by simp only[fV,wt];lia⟩
   split at e
   .have q:=aao.B5 h;cases z:fG S A with
    |mk R B=>
    rw[z]at e q;unfold p7 at e;split at e
    next g l i=>
     cases i;cases e;have b:=q.s;have j:=q.n;simp only[fc,d7,aS]at b;exact(aao.part (n:=n+1) (S:=g) (A:=B) ⟨b.2,q.a,by simp only[fV,wt]at j;lia⟩)
    .cases e
   .cases e
theorem DU:∀{a:List ä}{x:dh}{n:Nat}{A:Â},tz n x->a.all tw=true->ade x a=O A->aE A=true/\Å A<=n+a.length
|[],(S,U),n,A,_,_,e=>by cases e
|[],(S,O B),n,A,h,_,e=>by
 have q:=aao.B5 (n:=n) h;unfold ade acN at e;simp only at e;cases z:fG S B with
 |mk R C=>
  rw[z]at e q;split at e
  next h'=>
   cases h';cases e;exact⟨q.a,by have:=q.n;simp only[fV]at this;simp only[f9];lia⟩
  .cases e
|t::r,x,n,A,h,b,e=>by
 simp only[d7,aS]at b;unfold ade at e;cases z:abt x t with
 |none=>rw[z]at e;cases e
 |some y=>rw[z]at e;have:=DU (h.take b.1 z) b.2 e;exact⟨this.1,by simp only[aJ];lia⟩
def V2(h:ĕ t=O A):aE A=true:=by
 rw[wS]at h;split at h
 .cases h
 cases e:tk t with
 |none=>rw[e]at h;exact eG h
 |some l=>rw[e]at h;exact(DU (x:=([],U)) ⟨J,aN _⟩ (uA _ t l (aN _) e) h).1
end
section
open Vaneta Vanetb
def df:Nat->Ä->List Ä
|0,t=>[t]
|n+1,t=>if(t.any λb=>b==32)=true then t.takeWhile (λb=>b !=32)::df n ((t.dropWhile λb=>b !=32).drop 1)else[t]
def rG(b)(t):Ú b t≠[]:=by
 cases t with
 |nil=>simp[Ú]
 |cons c r=>
  unfold Ú;split
  .simp
  .split<;>simp
theorem p8:∀{t:Ä},¬(t.any λb=>b==32)=true->Ú 32 t=[t]
|[],_=>rfl
|c::r,h=>by simp only[kP,j3,jV,Bm]at h;let a:=p8 (t:=r) h.2;unfold Ú;rw[ai h.1,a]
theorem rH:∀{t:Ä},(t.any λb=>b==32)=true->Ú 32 t=t.takeWhile (λb=>b !=32)::Ú 32 ((t.dropWhile λb=>b !=32).drop 1)
|[]=>λh=>by simp at h
|c::r=>λh=>by
 by_cases a:c=32
 .subst a;show[]::Ú 32 r=_;simp[Ãg,ϸ]
 .let h':(r.any λb=>b==32)=true:=by
   simp only[kP,j3,jV]at h;rcases h with h|h
   .exact absurd h a
   .exact h
  let d:=rH (t:=r) h';let e:(c !=32)=true:=xL.mpr a;simp only[Ãg,ϸ,e];rw[<-show Ú 32 (c::r)=(c::Ãg (λb=>b !=32) r)::Ú 32 (List.drop 1<|ϸ (λb=>b !=32) r) by rw[Ú,ai a,d]]
theorem p9:∀(n:Nat)(t:Ä),(Ú 32 t).length<=n->df n t=Ú 32 t
|0=>λt h=>by let:=rG 32 t;exact absurd (ON.mp<|Nat.le_zero.mp h) this
|n+1=>λt h=>by
 unfold df;split
 next a=>rw[rH a]at h⊢;rw[p9 n _ (by simp only[aJ]at h;lia)]
 next a=>rw[p8 a]
theorem uB:∀(n:Nat)(t:Ä),n<(Ú 32 t).length->df n t=(Ú 32 t).take n++[ö n t]
|0=>λt _=>rfl
|n+1=>λt h=>by
 unfold df;split
 next a=>rw[rH a]at h⊢;rw[uB n _ (by simp only[aJ]at h;omega)];rfl
 next a=>rw[p8 a]at h;simp at h
theorem KJ:∀(n:Nat)(t:Ä),(Ú 32 t).length=n+1->(Ú 32 t)[n]?=O (ö n t)
|0=>λt h=>by
 by_cases a:(t.any λb=>b==32)=true
 .rw[rH a]at h;let:=rG 32<|(t.dropWhile λb=>b !=32).drop 1;simp only[aJ,OO]at h;exact absurd (ON.mp Z) this
 .rw[p8 a];rfl
|n+1=>λt h=>by
 by_cases a:(t.any λb=>b==32)=true
 .rw[rH a]at h⊢;simp only[aJ,OO]at h;let:=KJ n _ h;simpa[ö]using this
 .rw[p8 a]at h;simp at h
theorem KL:∀(n:Nat)(t:Ä),n+1<(Ú 32 t).length->((ö n t).any λb=>b==32)=true
|0=>λt h=>by
 by_cases a:(t.any λb=>b==32)=true
 .exact a
 .rw[p8 a]at h;simp at h
|n+1=>λt h=>by
 by_cases a:(t.any λb=>b==32)=true
 .rw[rH a]at h;simp only[aJ]at h;exact KL n _ Z
 .rw[p8 a]at h;simp at h
def V3(h:(t.any λb=>b==32)=true):Û t=none:=by
 unfold Û;obtain⟨b,a,e⟩:=l7.mp h;let:t.all ď=false:=by rw[<-Ëf,dQ];intro q;let:=q b a;rw[eq_of_beq e]at this;exact absurd this nofun
 simp[this]
noncomputable def adu:Nat->List Bool
|0=>[true]
|1|2|4=>[false,false,false,false]
|3|9|11=>[false,false,false]
|5|6=>[false,false,true]
|7|10=>[false,false]
|8=>[false,true]
|_=>[]
noncomputable def adZ:List Text:=[ň,ķ,Ů,ů,ĸ,Ĺ,Ξ,Ű,Φ,ĺ,Ļ,wEx]
abbrev om:=List Nat×Option Â
noncomputable def d3:List Bool->List Ä->om->Option om
|true::ls,t::ts,h=>(ß t).bind λA=>d3 ls ts (h.1,O A)
|false::ls,t::ts,h=>(Û t).bind λn=>d3 ls ts (h.1++[n],h.2)
|[],[],h=>O h
|_,_,_=>U
noncomputable def cD:Nat->om->Option Ù
|0,([],O A)=>O<|.ax A
|1,([i,p,j,q],U)=>O<|.cut i p j q
|2,([i,p,j,q],U)=>O<|.tensor i p j q
|3,([i,p,q],U)=>O<|.par i p q
|4,([i,p,j,q],U)=>O<|.wth i p j q
|5,([i,p],O A)=>O<|.plus1 i p A
|6,([i,p],O A)=>O<|.plus2 i p A
|7,([i,p],U)=>O<|.der i p
|8,([i],O A)=>O<|.weak i A
|9,([i,p,q],U)=>O<|.con i p q
|10,([i,p],U)=>O<|.prom i p
|11,([i,p,q],U)=>O<|.ex i p q
|_,_=>U
noncomputable def zX(t:Ä):Option Rule:=let w:=t.takeWhile λb=>b !=32
 if w∈adZ then
  let k:=adZ.findIdx λx=>x==w;let fs:=(df (adu k).length t).tail
  if fs.length=(adu k).length then(d3 (adu k) fs ([],U)).bind (cD k)else U
 else U
theorem KM:∀{t:Ä},¬(t.any λb=>b==32)=true->t.takeWhile (λb=>b !=32)=t
|[],_=>rfl
|c::r,h=>by simp only[kP,j3,jV,Bm]at h;rw[oN,aj<|xL.mpr h.1,KM h.2]
def KN(t):∃c,Ú 32 t=t.takeWhile (λb=>b !=32)::c:=by
 by_cases a:(t.any λb=>b==32)=true
 .exact⟨_,rH a⟩
 .exact⟨[],by rw[p8 a,KM a]⟩
theorem DV:∀{A:Type}(l:List (Option A))(m:List A),û l=O m->m.length=l.length
|_,[]=>λm e=>by cases e;rfl
|_,x::r=>λm e=>by
 unfold û at e;cases x with
 |none=>cases e
 |some a=>
  cases z:û r with
  |none=>rw[z]at e;cases e
  |some q=>rw[z]at e;cases e;simp[DV r q z]
theorem KO{A:Type}:∀(l:List (Option A)),û (l++[U])=U
|[]=>rfl
|x::r=>by
 show(x.bind λa=>(û (r++[U])).map λl=>a::l)=U;rw[KO r];cases x<;>rfl
theorem DW:∀(n:Nat)(fs:List Ä)(l:List Nat)(o:Option Â),fs.length=n->d3 (ϖ n false) fs (l,o)=(Ġ fs).map λm=>(l++m,o)
|0,[],l,o,_=>by show O (l,o)=O (l++[],o);rw[jW]
|n+1,t::b,l,o,h=>by
 simp only[aJ,OO]at h;show(Û t).bind (λc=>d3 (ϖ n false) b (l++[c],o))=Option.map _ ((Û t).bind λa=>(Ġ b).map λl=>a::l);cases Û t with
 |none=>rfl
 |some a=>
  show d3 (ϖ n false) b (l++[a],o)=_;rw[DW n b _ o h];cases Ġ b with
  |none=>rfl
  |some m=>simp
|0,_::_,_,_,h|_+1,[],_,_,h=>by simp at h
def mF{w}{ws}{t}{k n:Nat}(hc:Ú 32 t=w::ws)(hk:adu k=ϖ n false)(hn:0<n)(hm:∀l,l.length=n->cD k (l,U)=ĥ w l)(kX:∀l,l.length≠n->ĥ w l=U):(Ġ ws).bind (ĥ w)=if((df (adu k).length t).tail).length=(adu k).length then(d3 (adu k) (df (adu k).length t).tail ([],U)).bind (cD k)else none:=by
 have hkl:(adu k).length=n:=by rw[hk,ae1]
 rw[hkl,hk];by_cases hl:ws.length=n
 .have hc5:(Ú 32 t).length=n+1:=by rw[hc];simp[hl]
  have hb:=KJ n t hc5;have e:df n t=w::ws:=by
   rw[uB n t (by lia),<-hc];have h1:(Ú 32 t)=(Ú 32 t).take n++[ö n t]:=by
    obtain⟨h2,h3⟩:=b9.mp hb;conv=>lhs;rw[<-OP n<|Ú 32 t]
    rw[mQ h2,h3,List.drop_of_length_le (by lia)]
   exact h1.symm
  rw[e,OQ,aj hl,DW n ws [] U hl];cases z:Ġ ws with
  |none=>rfl
  |some m=>
   have:=DV _ _ z;rw[aK]at this;show ĥ w m=cD k ([]++m,U);rw[vg,hm m (by lia)]
 .have lhs:(Ġ ws).bind (ĥ w)=none:=by
   cases z:Ġ ws with
   |none=>rfl
   |some m=>have:=DV _ _ z;rw[aK]at this;exact kX m (by lia)
  rw[lhs];by_cases hs:ws.length<n
  .rw[p9 n t (by rw[hc];simp;lia),hc,OQ,ai hl]
  .have hb:=V3<|KL n t (by rw[hc];simp;lia);have e:df n t=w::(ws.take (n-1)++[ö n t]):=by
    rw[uB n t (by rw[hc];simp;lia),hc];match n,hn with
    |n+1,_=>rfl
   rw[e,OQ];have o7:(ws.take (n-1)++[ö n t]).length=n:=by simp;lia
   rw[aj o7,DW n _ [] U o7];have:Ġ (ws.take (n-1)++[ö n t])=none:=by unfold Ġ;rw[bU,bz,mP,hb];exact KO _
   rw[this];rfl
def V4{w}{c}{t}(b:Ú 32 t=w::c):(if c.isEmpty=true then U else(ß (ö 1 t)).map Rule.ax)=
  if((df (adu 0).length t).tail).length=(adu 0).length then(d3 (adu 0) (df (adu 0).length t).tail ([],U)).bind (cD 0)else none:=by
 show _=if((df 1 t).tail).length=1 then(d3 [true] (df 1 t).tail ([],U)).bind (cD 0)else U;cases c with
 |nil=>rw[p9 1 t (by simp_all),b];rfl
 |cons a r=>
  rw[uB 1 t (by simp_all),b];show _=((ß<|ö 1 t).bind λA=>O<|([],O A)).bind (cD 0);cases ß (ö 1 t)<;>rfl
def V5{w}{d}{t}(c:Ú 32 t=w::d):weakOf d t=
  if((df (adu 8).length t).tail).length=(adu 8).length then(d3 (adu 8) (df (adu 8).length t).tail ([],U)).bind (cD 8)else none:=by
 show _=if((df 2 t).tail).length=2 then(d3 [false,true] (df 2 t).tail ([],U)).bind (cD 8)else U
 match d with
 |[]|[a]=>rw[p9 2 t (by simp_all),c];rfl
 |a::b::r=>
  rw[uB 2 t (by simp_all),c];show((Û a).bind λi=>(ß<|ö 2 t).map λA=>Ãh i A)=((Û a).bind λn=>(ß<|ö 2 t).bind λA=>O<|([n],O A)).bind (cD 8);cases Û a with
  |none=>rfl
  |some i=>cases ß (ö 2 t)<;>rfl
def KP{w}{e}{t}{k:Nat}(d:Ú 32 t=w::e)(hk:adu k=[false,false,true])(f:∀i p A,cD k ([i,p],O A)=O (if w=Ĺ then .plus1 i p A else .plus2 i p A)):plusOf w e t=
  if((df (adu k).length t).tail).length=(adu k).length then(d3 (adu k) (df (adu k).length t).tail ([],U)).bind (cD k)else none:=by
 rw[hk];show _=if((df 3 t).tail).length=3 then(d3 [false,false,true] (df 3 t).tail ([],U)).bind (cD k)else U
 match e with
 |[]|[a]|[a,b]=>rw[p9 3 t (by simp_all),d];rfl
 |a::b::c::r=>
  rw[uB 3 t (by simp_all),d];show((Û a).bind λi=>(Û b).bind λp=>(ß (ö 3 t)).map λB=>if w=Ĺ then Ãi i p B else .plus2 i p B)=
   ((Û a).bind λn=>(Û b).bind λm=>(ß (ö 3 t)).bind λA=>O (([n,m],O A))).bind (cD k)
  cases Û a with
  |none=>rfl
  |some i=>cases Û b with
   |none=>rfl
   |some p=>cases ß (ö 3 t)with
    |none=>rfl
    |some A=>exact(f i p A).symm
def DX(t):zX t=ļ t:=by
 obtain⟨j,g⟩:=KN t;unfold zX ļ;rw[g];simp only;generalize t.takeWhile (λb=>b !=32)=w at g;by_cases f:w∈adZ
 .rw[aj f];simp[adZ]at f;let two:∀w l,(¬l.length=2->w∈[Ű,Ļ]->ĥ w l=U)/\(¬l.length=3->w∈[ů,ĺ,wEx]->ĥ w l=U)/\(¬l.length=4->w∈[ķ,Ů,ĸ]->ĥ w l=U):=by
   intro w l;refine⟨λe f=>?_,λe f=>?_,λe f=>?_⟩<;>simp[fk]at f
   .match l,e with
    |[],_|[_],_=>rfl
    |[a,b,c],_|[a,b,c,d],_=>rcases f with rfl|rfl<;>rfl
    |_::_::_::_::_::_,_=>rfl
    |[_,_],h=>exact absurd J h
   .match l,e with
    |[],_|[_],_=>rfl
    |[a,b],_|[a,b,c,d],_=>rcases f with rfl|rfl|rfl<;>rfl
    |_::_::_::_::_::_,_=>rfl
    |[_,_,_],h=>exact absurd J h
   .match l,e with
    |[],_|[_],_=>rfl
    |[a,b],_|[a,b,c],_=>rcases f with rfl|rfl|rfl<;>rfl
    |_::_::_::_::_::_,_=>rfl
    |[_,_,_,_],h=>exact absurd J h
  rcases f with rfl|rfl|rfl|rfl|rfl|rfl|rfl|rfl|rfl|rfl|rfl|rfl
  .exact(V4 g).symm
  .exact(mF g J Gc (by exact aZ λ_ _ _ _=>J) λl e=>(two _ l).2.2 e Gc).symm
  .exact(mF g J Gc (by exact aZ λ_ _ _ _=>J) λl e=>(two _ l).2.2 e Gc).symm
  .exact(mF g J Gc (by exact aZ λ_ _ _=>J) λl e=>(two _ l).2.1 e Gc).symm
  .exact(mF g J Gc (by exact aZ λ_ _ _ _=>J) λl e=>(two _ l).2.2 e Gc).symm
  .exact(KP g J λi p A=>J).symm
  .exact(KP g J λi p A=>J).symm
  .exact(mF g J Gc (by exact aZ λ_ _=>J) λl e=>(two _ l).1 e Gc).symm
  .exact(V5 g).symm
  .exact(mF g J Gc (by exact aZ λ_ _ _=>J) λl e=>(two _ l).2.1 e Gc).symm
  .exact(mF g J Gc (by exact aZ λ_ _=>J) λl e=>(two _ l).1 e Gc).symm
  .exact(mF g J Gc (by exact aZ λ_ _ _=>J) λl e=>(two _ l).2.1 e Gc).symm
 .rw[ai f];simp[adZ]at f;obtain⟨o,h1,h2,q,r,s,u,v,x,y,z,B⟩:=f;rw[ai o,ai λh=>h.elim s u,ai x];cases Ġ j with
  |none=>rfl
  |some m=>
   show U=ĥ w m;unfold ĥ;split
   .rw[ai v,ai z]
   .rw[ai q,ai y,ai B]
   .rw[ai h1,ai h2,ai r]
   .rfl
end
section
open Vaneta Vanetb
noncomputable def bR:Ù->List Nat
|.ax _|.weak _ _=>[]
|.cut _ p _ q|.tensor _ p _ q|.par _ p q|.wth _ p _ q|.con _ p q|.ex _ p q=>[p,q]
|.plus1 _ p _|.plus2 _ p _|.der _ p|.prom _ p=>[p]
def ad0:Ù->Option Â
|.ax A|.plus1 _ _ A|.plus2 _ _ A|.weak _ A=>O A
|_=>U
def wo(ps:List Nat)(S:È):Sequent:=(S.zipIdx.filter λx=>!(ps.any λp=>p==x.2)).map (·.1)
theorem KQ:∀(ps:List Nat)(S:È)(k:Nat),(∀p∈ps,p<k)->((S.zipIdx k).filter λx=>!(ps.any λp=>p==x.2)).map (·.1)=S
|ps,[]=>λk _=>rfl
|ps,A::r=>λk h=>by
 rw[kR,jd];have:(!(ps.any λp=>p==k))=true:=by rw[Ëg,<-Ëf,l7];rintro⟨p,a,e⟩;have:=h p a;lia
 rw[aj this,bz,KQ ps r (k+1) λp a=>by have:=h p a;lia]
theorem DY:∀(S:È)(p k:Nat),((S.zipIdx k).filter λx=>!([k+p].any λp=>p==x.2)).map (·.1)=S.eraseIdx p
|[],p=>λk=>by cases p<;>rfl
|A::r,0=>λk=>by rw[kR,jd];rw[ai Gc];exact KQ [k] r (k+1) λp a=>by simp at a;lia
|A::r,p+1=>λk=>by rw[kR,jd];rw[aj Gc,bz];let:=DY r p (k+1);rw[show k+1+p=k+(p+1) by lia]at this;rw[this];rfl
def V6(S)(p:Nat):wo [p] S=S.eraseIdx p:=by let:=DY S p 0;rw[mS]at this;exact this
theorem DZ:∀(S:È)(p q k:Nat),p<q->((S.zipIdx k).filter λx=>!([k+p,k+q].any λp=>p==x.2)).map (·.1)=(S.eraseIdx q).eraseIdx p
|[],p,q,k,_=>by cases p<;>cases q<;>rfl
|A::r,0,q+1,k,_=>by
 rw[kR,jd];rw[ai Gc];have e:((r.zipIdx (k+1)).filter λx=>!([k+0,k+(q+1)].any λp=>p==x.2))=((r.zipIdx (k+1)).filter λx=>!([k+1+q].any λp=>p==x.2)):=by
  apply OR;intro x a;have hk:k<x.2:=by have:=List.le_snd_of_mem_zipIdx a;lia
  have h1:(k+0==x.2)=false:=gk.mpr Z;simp only[kP,List.any_nil,h1,F3,xB];rw[show k+1+q=k+(q+1) by lia]
 rw[e,DY r q (k+1)];rfl
|A::r,p+1,q+1,k,h=>by rw[kR,jd];rw[aj Gc,bz];let:=DZ r p q (k+1) Z;rw[show k+1+p=k+(p+1) by lia,show k+1+q=k+(q+1) by lia]at this;rw[this];rfl
def V7(S)(p q:Nat)(h:p≠q):wo [p,q] S=if p<q then(S.eraseIdx q).eraseIdx p else(S.eraseIdx p).eraseIdx q:=by
 by_cases a:p<q
 .rw[if_pos a];let:=DZ S p q 0 a;rw[Nat.zero_add,Nat.zero_add]at this;exact this
 .rw[if_neg a];let:=DZ S q p 0 Z;rw[Nat.zero_add,Nat.zero_add]at this;rw[<-this];unfold wo;congr 1;apply List.filter_congr;intro x _;simp only[List.any_cons,List.any_nil,Bool.or_false];rw[Bool.or_comm]
def aeE:Formula:=.atom false []
def bu(S:È)(p:Nat):Formula:=S.getD p aeE
noncomputable def bI(ss:List È)(ps:List Nat):Bool:=(match ps with|[]=>true|p::_=>decide<|p<(ss.getD 0 []).length)&&(match ps with|[_,q]=>decide (q<(ss.getLastD []).length)|_=>true)&&(match ps with|[p,q]=>!(ss.length==1&&p==q)|_=>true)
noncomputable def aeF(sq:Nat->È):Ù->Bool
|.cut i p j q=>decide<|Æ (bu (sq i) p)=bu (sq j) q
|.wth i p j q=>decide<|wo [p] (sq i)=wo [q] (sq j)
|.con i p q=>ě (bu (sq i) p)&&decide (bu (sq i) p=bu (sq i) q)
|.prom i p=>(wo [p]<|sq i).all ě
|_=>true
noncomputable def aeM(sq:Nat->È):Ù->È
|.ax A=>[A,Æ A]
|.cut i p j q=>wo [p] (sq i)++wo [q] (sq j)
|.tensor i p j q=>wo [p] (sq i)++wo [q] (sq j)++[.tensor (bu (sq i) p)<|bu (sq j) q]
|.par i p q=>wo [p,q] (sq i)++[.par (bu (sq i) p)<|bu (sq i) q]
|.wth i p j q=>wo [p] (sq i)++[.wth (bu (sq i) p)<|bu (sq j) q]
|.plus1 i p B=>wo [p] (sq i)++[.plus (bu (sq i) p) B]
|.plus2 i p B=>wo [p] (sq i)++[.plus B<|bu (sq i) p]
|.der i p=>wo [p] (sq i)++[.whn<|bu (sq i) p]
|.weak i A=>sq i++[.whn A]
|.con i p q=>wo [p,q] (sq i)++[bu (sq i) p]
|.prom i p=>wo [p] (sq i)++[.ofc<|bu (sq i) p]
|.ex i p q=>((sq i).set p<|bu (sq i) q).set q<|bu (sq i) p
def D0{S}{p:Nat}(h:p<S.length):taken S p=O (bu S p,wo [p] S):=by unfold taken bu;rw[V6,bL h,jy,bL h];rfl
def D1{S}{p:Nat}(h:¬p<S.length):taken S p=none:=by unfold taken;rw[j0 Z];rfl
def V8{S}{p q:Nat}(h:p<S.length)(h2:q<S.length)(a:p≠q):Ϲ S p q=O (bu S p,bu S q,wo [p,q] S):=by unfold Ϲ bu;rw[ai a,V7 S p q a,bL h,bL h2,jy,bL h,jy,bL h2];rfl
def V9{S}{p q:Nat}(h:¬(p<S.length/\q<S.length/\p≠q)):Ϲ S p q=none:=by
 unfold Ϲ;by_cases a:p=q
 .rw[aj a]
 .rw[ai a];by_cases h1:p<S.length
  .rw[bL h1,j0<|show S.length<=q by lia];rfl
  .rw[j0<|show S.length<=p by lia];rfl
def aeN(sq:Nat->È)(r:Ù):Except Nat Sequent:=if bI ((Ë r).map sq) (bR r)=true then(if aeF sq r=true then .ok (aeM sq r)else .error 5)else .error 4
def zY{S}{p:Nat}{f:Â->È->Except Nat È}{b}{M}(a:f (bu S p) (wo [p] S)=if b=true then .ok M else .error 5):onOne S p f=if bI [S] [p]=true then(if b=true then .ok M else .error 5)else .error 4:=by
 unfold onOne ŗ;by_cases h:p<S.length
 .rw[D0 h,aj (by simp[bI,h])];exact a
 .rw[D1 h,ai (by simp[bI,h])]
def D3{S}{p q:Nat}{f:Â->Â->È->Except Nat È}{b}{M}(a:f (bu S p) (bu S q) (wo [p,q] S)=if b=true then .ok M else .error 5):onTwo S p q f=if bI [S] [p,q]=true then(if b=true then .ok M else .error 5)else .error 4:=by
 unfold onTwo ŗ;by_cases h:p<S.length/\q<S.length/\p≠q
 .rw[V8 h.1 h.2.1 h.2.2,aj (by simp[bI,h.1,h.2.1,h.2.2])];exact a
 .rw[V9 h,ai];intro z;apply h;simpa[bI,and_assoc]using z
def D4{S T}{p q:Nat}{f:Â->È->Â->È->Except Nat È}{b}{M}(a:f (bu S p) (wo [p] S) (bu T q) (wo [q] T)=if b=true then .ok M else .error 5):onBoth S p T q f=if bI [S,T] [p,q]=true then(if b=true then .ok M else .error 5)else .error 4:=by
 unfold onBoth ŗ;by_cases h:p<S.length
 .rw[D0 h];by_cases h2:q<T.length
  .rw[D0 h2,aj (by simp[bI,h,h2])];exact a
  .rw[D1 h2,ai (by simp[bI,h2])]
 .rw[D1 h,ai (by simp[bI,h])]
def qa(sq:Nat->È)(r):Þ sq r=aeN sq r:=by
 cases r with
 |ax A|weak i A=>rfl
 |cut i p j q=>
  rw[Þ];refine oO (D4 ?_) J;show after (decide<|bu (sq j) q=Æ (bu (sq i) p)) 5 _=if decide (Æ (bu (sq i) p)=bu (sq j) q)=true then _ else _;unfold after;simp;by_cases h:bu (sq j) q=Æ (bu (sq i) p)
  .rw[aj h,aj h.symm];rfl
  .rw[ai h,ai λz=>h z.symm]
 |tensor i p j q|wth i p j q=>rw[Þ];exact oO (D4 J) J
 |par i p q|con i p q|ex i p q=>rw[Þ];exact oO (D3 J) J
 |plus1 i p B|plus2 i p B|der i p|prom i p=>rw[Þ];exact oO (zY J) J
def bC(n:Nat):Nat:=if n<1000000000 then n else 1000000000
noncomputable def iV:Ù->Ù
|.ax A=>.ax A
|.cut i p j q=>.cut (bC i) (bC p) (bC j)<|bC q
|.tensor i p j q=>.tensor (bC i) (bC p) (bC j)<|bC q
|.par i p q=>.par (bC i) (bC p)<|bC q
|.wth i p j q=>.wth (bC i) (bC p) (bC j)<|bC q
|.plus1 i p B=>.plus1 (bC i) (bC p) B
|.plus2 i p B=>.plus2 (bC i) (bC p) B
|.der i p=>.der (bC i)<|bC p
|.weak i A=>.weak (bC i) A
|.con i p q=>.con (bC i) (bC p)<|bC q
|.prom i p=>.prom (bC i)<|bC p
|.ex i p q=>.ex (bC i) (bC p)<|bC q
def wT{n m:Nat}(h:m<=1000):bC n<m↔n<m:=by unfold bC;split<;>lia
def uC{n m:Nat}(h:m<=1000)(a:n<m):bC n=n:=by unfold bC;rw[aj Z]
def D5(r):Ë (iV r)=(Ë r).map bC:=by cases r<;>rfl
def V_(r):bR (iV r)=(bR r).map bC:=by cases r<;>rfl
def KR(b:∀S∈ss,S.length<=1000)(ps:List Nat)(h:bI ss ps=true):ps.map bC=ps\/2<ps.length:=by
 have c:(ss.getD 0 []).length<=1000:=by
  cases ss with
  |nil=>exact cM _
  |cons a r=>exact b a Gc
 have h1:(ss.getLastD []).length<=1000:=by
  cases ss with
  |nil=>exact cM _
  |cons a r=>rw[afi];let:=afj (l:=r) (a:=a);exact b _ this
 match ps,h with
 |[],_=>exact .inl J
 |[p],h=>simp[bI]at h;exact .inl (by rw[bz,uC c h];rfl)
 |[p,q],h=>simp only[bI,aS,du]at h;exact .inl (by rw[bz,bz,uC c h.1.1,uC h1 h.1.2];rfl)
 |_::_::_::_,_=>exact .inr Gc
def V'(c:∀S∈ss,S.length<=1000)(ps:List Nat)(h:bI ss (ps.map bC)=true):bI ss ps=true:=by
 have b:(ss.getD 0 []).length<=1000:=by
  cases ss with
  |nil=>exact cM _
  |cons a r=>exact c a Gc
 have h1:(ss.getLastD []).length<=1000:=by
  cases ss with
  |nil=>exact cM _
  |cons a r=>rw[afi];let:=afj (l:=r) (a:=a);exact c _ this
 match ps,h with
 |[],_=>rfl
 |[p],h|p::q::a::r,h=>simp[bI]at h⊢;exact(wT b).mp h
 |[p,q],h=>simp only[bz,mP,bI,aS,du]at h⊢;have d:=(wT b).mp h.1.1;have e2:=(wT h1).mp h.1.2;rw[uC b d,uC h1 e2]at h;exact⟨⟨d,e2⟩,h.2⟩
def KS(h1:(Ë r).map bC=Ë r)(h2:(bR r).map bC=bR r):iV r=r:=by cases r<;>simp[Ë,bR]at h1 h2<;>simp[iV,h1,h2]
def KU(r):¬2<(bR r).length:=by cases r<;>simp[bR]
def Wa{P}(c:∀l∈P,l.sequent.length<=1000){r}(a:(Ë r).map bC=Ë r):aeN (Î P) (iV r)=aeN (Î P) r:=by
 let b:∀S∈(Ë r).map<|Î P,S.length<=1000:=by
  intro S d;obtain⟨i,_,rfl⟩:=bZ.mp d;unfold Î;cases e:P[i]? with
  |none=>exact cM _
  |some l=>exact c l<|bM e
 by_cases h:bI ((Ë r).map<|Î P) (bR r)=true
 .rcases KR b _ h with e|e
  .rw[KS a e]
  .exact absurd e<|KU r
 .unfold aeN;rw[ai h,D5,a,V_,ai λz=>h<|V' b _ z]
def Wb{P}(c:∀l∈P,l.sequent.length<=1000)(d:P.length<=1000)(r):ġ P (iV r)=ġ P r:=by
 unfold ġ;by_cases h:((Ë r).all λi=>decide<|i<P.length)=true
 .let b:(Ë r).map bC=Ë r:=by
   rw[dQ]at h;conv=>rhs;rw[<-vk<|Ë r]
   apply oM;intro i hi;exact uC d<|dR<|h i hi
  rw[D5,b,qa,qa,Wa c b];unfold after;by_cases a:(ϊ (Ë r)&&(Ë r).all λi=>!Ħ P i)=true
  .rw[aj a,aj a];by_cases f:bI ((Ë r).map<|Î P) (bR r)=true
   .let g:∀S∈(Ë r).map<|Î P,S.length<=1000:=by
     intro S j;obtain⟨i,_,rfl⟩:=bZ.mp j;unfold Î;cases e:P[i]? with
     |none=>exact cM _
     |some l=>exact c l<|bM e
    rcases KR g _ f with q|q
    .rw[KS b q]
    .exact absurd q<|KU r
   .unfold aeN;rw[ai f]
  .rw[ai a,ai a]
 .let h':¬((Ë<|iV r).all λi=>decide<|i<P.length)=true:=by intro z;apply h;rw[D5]at z;rw[dQ]at z⊢;intro i hi;let:=z (bC i)<|bZ.mpr ⟨i,hi,J⟩;exact bP<|(wT d).mp<|dR this
  unfold after;rw[ai h,ai h']
end
section
open Vaneta Vanetb
def bD(kn:UInt8->Bool)(t:Ä):Text:=t.map λb=>if kn b=true then b else 35
structure wU(kn:UInt8->Bool):Prop where
 bp:∀b,Ü b=true->kn b=true
 sign:∀b,Ą b=true->kn b=true
 KW:kn 45=true
 uD:kn 32=true
theorem jq(kn)(b)(t):bD kn (b::t)=(if kn b=true then b else 35)::bD kn t:=rfl
theorem zZ(kn)(t):(bD kn t).length=t.length:=aK _
section
variable {kn:UInt8->Bool} (hk:wU kn)
include hk
theorem KY:∀t:Ä,(bD kn t).takeWhile Ü=t.takeWhile Ü
|[]=>rfl
|b::r=>by
 rw[jq];by_cases h:Ü b=true
 .rw[aj<|hk.bp b h,oN,oN,aj h,aj h,KY r]
 .let a:¬Ü (if kn b=true then b else 35)=true:=by
   split
   .exact h
   .decide
  rw[oN,oN,ai h,ai a]
theorem KZ:∀t:Ä,(bD kn t).dropWhile Ü=bD kn (t.dropWhile Ü)
|[]=>rfl
|b::r=>by
 rw[jq];by_cases h:Ü b=true
 .rw[aj<|hk.bp b h,vm,vm,aj h,aj h,KZ r]
 .let a:¬Ü (if kn b=true then b else 35)=true:=by
   split
   .exact h
   .decide
  rw[vm,vm,ai h,ai a];rfl
theorem wW:∀(n:Nat)(t:Ä),t.length<=n->tk (bD kn t)=tk t
|_,[],_=>rfl
|0,_::_,h=>by simp at h
|n+1,b::r,h=>by
 simp only[aJ]at h;by_cases h1:b=32
 .subst h1;rw[jq,aj hk.uD,wR,wR,wW n r Z]
 by_cases h2:Ą b=true
 .rw[jq,aj<|hk.sign b h2,ux _ h2,ux _ h2,wW n r Z]
 by_cases d:Ü b=true
 .let f:(r.dropWhile Ü).length<=r.length:=vj<|sy _;rw[jq,aj<|hk.bp b d,uz d,uz d,KY hk,KZ hk,wW n _ Z]
 by_cases a:b=45/\r.head? =O 111
 .obtain⟨rfl,a⟩:=a;match r,a with
  |_::s,a=>cases a;simp only[aJ]at h;rw[jq,aj hk.KW,jq,aj<|hk.bp 111 gn,uy,uy,wW n s Z]
 .rw[rF h1 h2 a d,jq];split
  .refine rF h1 h2 (λq=>a ⟨q.1,?_⟩) d;cases r with
   |nil=>exact q.2
   |cons c s=>
    let e:(if kn c=true then c else 35)=111:=cZ q.2;split at e
    .rw[e];rfl
    .exact absurd e gn
  .exact rF gn gn (λq=>absurd q.1 gn) gn
theorem Wc(t):ĕ (bD kn t)=ĕ t:=by rw[wS,wS,zZ,wW hk _ t<|aN _]
theorem wX(t):ß (bD kn t)=ß t:=by unfold ß;rw[Wc hk]
theorem We{w t}(a:(w.all λb=>b !=35)=true)(h:bD kn t=w):t=w:=by
 subst h;induction t with
 |nil=>rfl
 |cons b r c=>
  rw[jq]at a⊢;rw[d7,aS]at a;rw[<-c a.2];split
  .rfl
  next d=>rw[ai d]at a;exact absurd a.1 nofun
theorem z0{p:UInt8->Bool}(a:p 35=false)(c:∀b,p b=true->kn b=true):∀t:Ä,(bD kn t).all p=t.all p
|[]=>rfl
|b::r=>by
 rw[jq,d7,d7,z0 a c r];split
 .rfl
 next h=>
  have:p b=false:=by
   cases e:p b with
   |false=>rfl
   |true=>exact absurd (c b e) h
  rw[a,this]
theorem z4:∀{t:Ä},(t.all kn)=true->bD kn t=t
|[]=>λ_=>rfl
|b::r=>λh=>by rw[d7,aS]at h;rw[jq,aj h.1,z4 h.2]
theorem K0(h:ď b=true):kn b=true:=hk.bp b (by unfold Ü;unfold ď at h;rw[h];simp)
theorem D6(t):Û (bD kn t)=Û t:=by
 let c:=z0 hk J (λb a=>K0 hk a) t;by_cases hd:t.all ď=true
 .let:=z4 hk (by rw[dQ]at hd⊢;exact λb a=>K0 hk<|hd b a);rw[this]
 .unfold Û;rw[c];let hd:t.all ď=false:=by simpa using hd
  rw[hd];simp
theorem z9{c:UInt8}(a:kn c=true)(d:c≠35):∀t:Ä,Ú c (bD kn t)=(Ú c t).map (bD kn)
|[]=>rfl
|b::r=>by
 rw[jq];show(if(if kn b=true then b else 35)=c then[]::Ú c (bD kn r)else _)=Ãj (bD kn) (if b=c then _ else _);by_cases h:b=c
 .subst h;rw[aj a,aj J,aj J,z9 a d r];rfl
 .let:¬(if kn b=true then b else 35)=c:=by
   split
   .exact h
   .exact λe=>d e.symm
  rw[ai this,ai h,z9 a d r];cases Ú c r<;>rfl
theorem z_:∀(n:Nat)(t:Ä),ö n (bD kn t)=bD kn (ö n t)
|0,_=>rfl
|n+1,t=>by
 let:∀t:Ä,(bD kn t).dropWhile (λb=>b !=32)=bD kn (t.dropWhile λb=>b !=32):=by
  intro t;induction t with
  |nil=>rfl
  |cons b r a=>
   rw[jq];by_cases h:b=32
   .subst h;rw[aj hk.uD];simp[ϸ,bD,hk.uD]
   .let h1:((if kn b=true then b else 35) !=32)=true:=by
     split
     .exact xL.mpr h
     .decide
    rw[vm,vm,aj h1,aj<|xL.mpr h,a]
 show ö n (((bD kn t).dropWhile λb=>b !=32).drop 1)=_;rw[this,show(bD kn<|t.dropWhile λb=>b !=32).drop 1=bD kn ((t.dropWhile λb=>b !=32).drop 1)from By.symm,z_ n];rfl
theorem Wf(l):Ġ (l.map (bD kn))=Ġ l:=by unfold Ġ;rw[List.map_map];congr 1;exact List.map_congr_left λt _=>D6 hk t
theorem Wg{w t}(a:(w.all λb=>b !=35)=true)(h:(w.all kn)=true):bD kn t=w↔t=w:=⟨We hk a,λe=>by subst e;exact z4 hk h⟩
theorem Wh(t):ļ (bD kn t)=ļ t:=by
 let j:∀w∈adZ,(w.all kn)=true:=by
  intro w a;rw[List.all_eq_true];intro b k;apply hk.bp;let:(adZ.all λw=>w.all Ü)=true:=gn;exact List.all_eq_true.mp (List.all_eq_true.mp this w a) b k
 let e:∀w∈adZ,(w.all λb=>b !=35)=true:=by
  let:(adZ.all λw=>w.all λb=>b !=35)=true:=gn;exact λw a=>List.all_eq_true.mp this w a
 let iff:∀w t,w∈adZ->(bD kn t=w↔t=w):=λw t a=>Wg hk (e w a)<|j w a;unfold ļ;rw[z9 hk hk.uD nofun];have⟨d,m⟩:=KN t;rw[m];simp;generalize t.takeWhile (λb=>b !=32)=w;let n:=iff ň w (by simp[adZ]);let i1:=iff ķ w (by simp[adZ]);let i2:=iff Ů w (by simp[adZ]);let o:=iff ů w (by simp[adZ]);let q:=iff ĸ w (by simp[adZ]);let h:=iff Ĺ w (by simp[adZ]);let s:=iff Ξ w (by simp[adZ]);let u:=iff Ű w (by simp[adZ]);let v:=iff Φ w (by simp[adZ]);let x:=iff ĺ w (by simp[adZ]);let f:=iff Ļ w (by simp[adZ]);let g:=iff wEx w (by simp[adZ]);let y:plusOf (bD kn w) (d.map<|bD kn) (bD kn t)=plusOf w d t:=by
  match d with
  |[]=>rfl
  |[_]=>rfl
  |[_,_]=>rfl
  |i::p::c::r=>
   show((Û<|bD kn i).bind λi=>(Û<|bD kn p).bind λp=>(ß<|ö 3<|bD kn t).map λB=>if bD kn w=Ĺ then Ãi i p B else .plus2 i p B)=
    ((Û i).bind λi=>(Û p).bind λp=>(ß<|ö 3 t).map λB=>if w=Ĺ then Ãi i p B else .plus2 i p B)
   simp[D6 hk,z_ hk,wX hk,h]
 let e2:weakOf (d.map<|bD kn) (bD kn t)=weakOf d t:=by
  match d with
  |[]=>rfl
  |[_]=>rfl
  |i::p::r=>show((Û<|bD kn i).bind λi=>(ß<|ö 2<|bD kn t).map λA=>Ãh i A)=((Û i).bind λi=>(ß<|ö 2 t).map λA=>Ãh i A);simp[D6 hk,z_ hk,wX hk]
 let z:ĥ (bD kn w)=ĥ w:=by funext l;unfold ĥ;simp[u,f,o,x,g,i1,i2,q]
 simp[n,h,s,v,y,e2,z,Wf hk,z_ hk,wX hk]
theorem D7(a:kn 10=true):∀t:Ä,Ĝ (bD kn t)=(Ĝ t).map (bD kn)
|[]=>rfl
|b::r=>by
 rw[jq];show(if(if kn b=true then b else 35)=10 then[]::Ĝ (bD kn r)else _)=Ãj (bD kn) (if b=10 then _ else _);by_cases h:b=10
 .subst h;rw[aj a,aj J,aj J,D7 a r];rfl
 .let:¬(if kn b=true then b else 35)=10:=by
   split
   .exact h
   .decide
  rw[ai this,ai h,D7 a r];cases Ĝ r<;>rfl
theorem K1(P)(t):Ć P (bD kn t)=Ć P t:=by unfold Ć;rw[Wh hk]
theorem K3:∀(l:List Ä)(i:Nat)(P:Ê),ű i P (l.map (bD kn))=ű i P l
|[],_,_=>rfl
|t::r,i,P=>by
 rw[bz,ű,ű,K1 hk];cases Ć P t with
 |error n=>rfl
 |ok Q=>exact K3 r (i+1) Q
theorem Wi(a:kn 10=true)(t):Ľ (bD kn t)=Ľ t:=by unfold Ľ;rw[D7 hk a,K3 hk]
end
end
section
open Vaneta Vanetb
def jK(P:Ê):Prop:=∀i l,P[i]?=O l->∀j∈Ë l.rule,j<i
theorem K4:∀{l m:List Nat},l.Pairwise (· < ·)->m.Pairwise (· < ·)->(∀x,x∈l↔x∈m)->l=m
|[],[]=>λ_ _ _=>rfl
|[],b::m=>λ_ _ h=>by have:=(h b).mpr Gc;simp at this
|a::l,[]=>λ_ _ h=>by have:=(h a).mp Gc;simp at this
|a::l,b::m=>λd hm h=>by
 rw[sE]at d hm;have e:a=b:=by
  rcases a_.mp ((h a).mp Gc)with e|e
  .exact e
  .rcases a_.mp ((h b).mpr Gc)with f|f
   .exact f.symm
   .have:=hm.1 a e;have:=d.1 b f;lia
 subst e;rw[K4 d.2 hm.2 λx=>⟨λc=>?_,λc=>?_⟩]
 .rcases a_.mp ((h x).mp<|f8 _ c)with e|e
  .have:=d.1 x c;lia
  .exact e
 .rcases a_.mp ((h x).mpr<|f8 _ c)with e|e
  .have:=hm.1 x c;lia
  .exact e
def jL(P:Ê)(n:Nat)(l:List Nat):List Nat:=if(l.any λi=>i==n)=true then l++((ľ P n).map Ë).getD []else l
def wY(P)(n:Nat)(l:List Nat):Ģ P (n+1) l=Ģ P n (jL P n l):=rfl
def uE{l:List Nat}{n:Nat}:(l.any λi=>i==n)=true↔n∈l:=by rw[l7];exact⟨λ⟨x,a,e⟩=>by exact((eq_of_beq e))▸a,λh=>⟨n,h,sk n⟩⟩
theorem D8(P:Ê)(i:Nat):∀(n:Nat),i+1<=n->Ģ P n [i]=Ģ P (i+1) [i]
|0=>λh=>by lia
|n+1=>λh=>by
 by_cases e:n=i
 .rw[e]
 .rw[wY];let:jL P n [i]=[i]:=by unfold jL;rw[ai];rw[uE];simp;lia
  rw[this,D8 P i n Z]
theorem D9{P:Ê}(hd:jK P){b:Nat}(f:b<=P.length):∀(n:Nat)(l:List Nat),n<=b->(∀x∈l,x<b)->∀x∈Ģ P n l,x<b
|0=>λl _ h x c=>h x c
|n+1=>λl g h x c=>by
 rw[wY]at c;refine D9 hd f n _ Z (λy d=>?_) x c;unfold jL at d;split at d
 .rcases d6.mp d with q|q
  .exact h y q
  .unfold ľ at q;cases e:P[n]? with
   |none=>rw[e]at q;simp at q
   |some a=>rw[e]at q;have:=hd n a e y (by simpa using q);lia
 .exact h y d
def Wj{P}(hd:jK P){i:Nat}(hi:i<P.length){l:List Nat}(a:l.Pairwise (· < ·))(b:∀x,x∈l↔x∈Ģ P (i+1) [i]):ë P i=l:=by
 refine K4 ?_ a λx=>?_
 .exact afk _ afl
 .unfold ë Äa;rw[r_,D8 P i P.length Z,FN,uE,b x];refine⟨λh=>h.2,λh=>⟨?_,h⟩⟩;exact D9 hd (aN _) (i+1) [i] Z (λy c=>by simp at c;lia) x h
def uF(h:x∈ë P i):x<P.length:=by unfold ë at h;exact FN.mp (r_.mp h).1
end
section
open Vaneta
def aw(n:Bool)(a:Ô):Text:=if n=true then 126::a else a
noncomputable def wd:Â->List Ä
|.atom n a=>[aw n a]
|.tensor A B=>[42]::(wd A++wd B)
|.par A B=>[124]::(wd A++wd B)
|.wth A B=>[38]::(wd A++wd B)
|.plus A B=>[43]::(wd A++wd B)
|.ofc A=>[33]::wd A
|.whn A=>[63]::wd A
def bW(w:Ä):Bool:=decide (w=[42])||(decide (w=[124])||(decide (w=[38])||decide (w=[43])))
def gY(w:Ä):Bool:=decide (w=[33])||decide (w=[63])
def sg(w:Ä):UInt8:=w.headD 0
def hd(A:Â):Text:=(wd A).headD []
theorem ee:∀A:Â,(wd A).length=Å A
|.atom n a=>rfl
|.tensor A B|.par A B|.wth A B|.plus A B=>by simp only[wd,Å,aJ,bw,ee A,ee B];lia
|.ofc A|.whn A=>by simp only[wd,Å,aJ,ee A];lia
def Aa(A):0<Å A:=by cases A<;>simp[Å]<;>lia
def Ab(A):∃r,wd A=hd A::r:=by cases A<;>exact⟨_,J⟩
def Wk{c}(h:ô c=true)(A B):wd (two c A B)=[c]::(wd A++wd B):=by
 have h:c=42\/c=124\/c=38\/c=43:=by unfold ô at h;simpa only[j3,jV]using h
 rcases h with rfl|rfl|rfl|rfl<;>rfl
def ir{n}{a}(h:Õ a=true):bW (aw n a)=false/\gY (aw n a)=false:=by
 obtain⟨c,r,rfl,b⟩:=zU h;let k:c≠42/\c≠124/\c≠38/\c≠43/\c≠33/\c≠63:=by refine⟨?_,?_,?_,?_,?_,?_⟩<;>(intro e;subst e;revert b;decide)
 unfold aw bW gY;cases n with
 |true=>simp
 |false=>simp[k.1,k.2.1,k.2.2.1,k.2.2.2.1,k.2.2.2.2.1,k.2.2.2.2.2]
def rI{n}{a}(h:Õ a=true):(aw n a).head? =O 126↔n=true:=by
 obtain⟨c,r,rfl,b⟩:=zU h;let:=(KG b).1;cases n<;>simp[aw,this]
def D_{n m}{a b}(c:Õ a=true)(d:Õ b=true)(e:aw n a=aw m b):n=m/\a=b:=by
 have h1:=rI (n:=n) c;have h2:=rI (n:=m) d;rw[e]at h1;have:n=m:=by
  cases n<;>cases m<;>simp_all
 subst this;cases n with
 |true|false=>simpa[aw]using e
def jr(w:Ä):Formula:=if w.head? =O 126 then .atom true w.tail else .atom false w
def aeO(w:Ä)(A:Â):Formula:=if w=[33]then .ofc A else .whn A
noncomputable def ly(w:Ä)(st:List Â):Option (List Â):=if bW w=true then(match st with
  |X::Y::r=>O<|two (sg w) X Y::r
  |_=>U)
 else if gY w=true then(match st with
  |X::r=>O<|aeO w X::r
  |_=>U)
 else O (jr w::st)
def aeP:List Ä->Option (List Â)
|[]=>O []
|w::ws=>(aeP ws).bind<|ly w
def K5{n}{a}(h:Õ a=true):jr (aw n a)=.atom n a:=by
 unfold jr;cases n with
 |true=>rfl
 |false=>rw[ai λz=>by let:=(rI h).mp z;cases this];rfl
theorem lA:∀(A:Â)(b:List Ä)(st:List Â),aE A=true->aeP b=O st->aeP (wd A++b)=O (A::st)
|.atom n a,b,st,h,e=>by
 let h:Õ a=true:=h;show(aeP b).bind (ly<|aw n a)=_;rw[e];show ly _ st=_;unfold ly;rw[(ir h).1,(ir h).2,K5 h];rfl
|.tensor A B,b,st,h,e|.par A B,b,st,h,e|.wth A B,b,st,h,e|.plus A B,b,st,h,e=>by
 simp only[aE,aS]at h;show(aeP<|(wd A++wd B)++b).bind _=_;rw[jc,lA A _ _ h.1<|lA B _ _ h.2 e];rfl
|.ofc A,b,st,h,e|.whn A,b,st,h,e=>by show(aeP<|wd A++b).bind _=_;rw[lA A _ _ h e];rfl
def Ac(h:aE A=true):aeP (wd A)=O [A]:=by let:=lA A [] [] h J;rwa[jW]at this
def Ea(a:aE A=true)(b:aE B=true)(e:wd A=wd B):A=B:=by let h1:=Ac a;rw[e,Ac b]at h1;simpa using h1.symm
theorem K6:∀{a:List Ä}{st:List Â}(k:Nat),aeP a=O st->∃s,aeP (a.drop k)=O s
|a,st,0,h|[],st,k+1,h=>⟨st,h⟩
|w::a,st,k+1,h=>by
 let h:(aeP a).bind (ly w)=O st:=h;cases e:aeP a with
 |none=>rw[e]at h;exact eG h
 |some s=>exact K6 k e
def Ad(h:ly w st=O a):(bW w=true/\c3 λX Y r=>st=X::Y::r/\a=two (sg w) X Y::r)\/(bW w=false/\gY w=true/\c2 λX r=>st=X::r/\a=aeO w X::r)\/(bW w=false/\gY w=false/\a=jr w::st):=by
 unfold ly at h;cases h2:bW w with
 |true=>
  rw[aj h2]at h;match st,h with
  |X::Y::r,h=>exact .inl ⟨J,X,Y,r,J,by simpa using h.symm⟩
 |false=>
  rw[ai (by simp_all)]at h;cases h1:gY w with
  |true=>
   rw[aj h1]at h;match st,h with
   |X::r,h=>exact .inr<|.inl ⟨J,J,X,r,J,by simpa using h.symm⟩
  |false=>rw[ai (by simp_all)]at h;exact .inr<|.inr ⟨J,J,by simpa using h.symm⟩
def Ae(h:bW w=true):w=[42]\/w=[124]\/w=[38]\/w=[43]:=by unfold bW at h;simpa only[j3,du]using h
def Eb(h:gY w=true):w=[33]\/w=[63]:=by unfold gY at h;simpa only[j3,du]using h
def Wl(h:bW w=true):ô (sg w)=true/\w=[sg w]:=by rcases Ae h with rfl|rfl|rfl|rfl<;>decide
def da(w:Ä):Bool:=bW w||gY w
def Py(c:UInt8):UInt8:=if c=42 then 124 else if c=124 then 42 else if c=38 then 43 else if c=43 then 38 else if c=33 then 63 else 33
def dw(w:Ä):Text:=if da w=true then[Py<|sg w]else if w.head? =O 126 then w.tail else 126::w
def Wm{n}{a}(h:Õ a=true):dw (aw n a)=aw (!n) a:=by
 unfold dw da;rw[(ir h).1,(ir h).2];cases n with
 |true=>rfl
 |false=>rw[ai nofun,ai λz=>by let:=(rI h).mp z;cases this];rfl
theorem lB:∀{A:Â},aE A=true->wd (Æ A)=(wd A).map dw
|.atom n a=>λh=>by show[aw (!n) a]=[dw<|aw n a];rw[Wm h]
|.tensor A B=>λh=>by
 simp only[aE,aS]at h;show[124]::(wd (Æ A)++wd (Æ B))=_;rw[lB h.1,lB h.2,wd,bz,bU];rfl
|.par A B=>λh=>by
 simp only[aE,aS]at h;show[42]::(wd (Æ A)++wd (Æ B))=_;rw[lB h.1,lB h.2,wd,bz,bU];rfl
|.wth A B=>λh=>by
 simp only[aE,aS]at h;show[43]::(wd (Æ A)++wd (Æ B))=_;rw[lB h.1,lB h.2,wd,bz,bU];rfl
|.plus A B=>λh=>by
 simp only[aE,aS]at h;show[38]::(wd (Æ A)++wd (Æ B))=_;rw[lB h.1,lB h.2,wd,bz,bU];rfl
|.ofc A=>λh=>by show[63]::wd (Æ A)=_;rw[lB (A:=A) h];rfl
|.whn A=>λh=>by show[33]::wd (Æ A)=_;rw[lB (A:=A) h];rfl
theorem js:∀{A:Â},aE A=true->(wd A).filter (λw=>!da w)=(Ĭ A).map λx=>aw x.1 x.2
|.atom n a,h=>by
 let:da (aw n a)=false:=by unfold da;rw[(ir h).1,(ir h).2];rfl
 show Äb _ [aw n a]=[aw n a];rw[jd,this];rfl
|.tensor A B,h|.par A B,h|.wth A B,h|.plus A B,h=>by
 simp only[aE,aS]at h;show Äb _ (wd A++wd B)=(Ĭ A++Ĭ B).map _;rw[sH,bU,js h.1,js h.2]
|.ofc A,h|.whn A,h=>js (A:=A) h
theorem iW:∀A:Â,(Ĭ A).length=ï A
|.atom _ _=>rfl
|.tensor A B|.par A B|.wth A B|.plus A B=>by simp only[Ĭ,ï,bw,iW A,iW B]
|.ofc A|.whn A=>iW A
theorem ky:∀{A:Â},aE A=true->∀x∈Ĭ A,Õ x.2=true
|.atom n a,h,x,b=>by rw[show x=(n,a) by simpa[Ĭ]using b];exact h
|.tensor A B,h,x,b|.par A B,h,x,b|.wth A B,h,x,b|.plus A B,h,x,b=>by simp only[aE,aS]at h;exact(d6.mp b).elim (ky h.1 x)<|ky h.2 x
|.ofc A,h,x,b|.whn A,h,x,b=>ky (A:=A) h x b
def Ec(h:aE A=true):(þ A !=0)=bW (hd A)/\(bW (hd A)=true->hd A=[þ A]):=by
 cases A with
 |atom n a=>exact⟨by show false=bW (aw n a);rw[(ir h).1],λz=>by rw[show hd (.atom n a)=aw n a from J,(ir h).1]at z;cases z⟩
 |_=>exact⟨J,λz=>by first|rfl|cases z⟩
def br(w f fs:Ä):Text:=if(bW w&&!decide (w=fs))=true then 40::(f++[41])else f
def Wn{w}(a:bW w=true){A B}(e:aE A=true)(f:aE B=true):ã (two (sg w) A B)=br (hd A) (ã A) []++w++br (hd B) (ã B) w:=by
 have b:=Ec e;have c:=Ec f;have g:br (hd A) (ã A) []=ĵ (þ A !=0) (ã A):=by
  unfold br ĵ;rw[b.1];cases h2:bW (hd A)with
  |false=>rfl
  |true=>rw[b.2 h2];rfl
 have e2:br (hd B) (ã B) w=ĵ (þ B !=0&&þ B !=sg w) (ã B):=by
  unfold br ĵ;rw[c.1];cases h2:bW (hd B)with
  |false=>rfl
  |true=>
   let:(!decide (hd B=w))=(þ B !=sg w):=by
    rw[c.2 h2];have d:=(Wl a).2;by_cases z:þ B=sg w
    .rw[z,<-d];simp
    .let h:¬[þ B]=w:=λq=>z (by rw[d]at q;simpa using q);simp[z,h]
   rw[je,this,je]
 rw[g,e2];rcases Ae a with rfl|rfl|rfl|rfl<;>(show chain _ _ _ _ _=_;unfold chain;simp[sg])
def Wo{w}(b:gY w=true){A}(c:aE A=true):ã (aeO w A)=w++br (hd A) (ã A) []:=by
 let a:=Ec c;let d:br (hd A) (ã A) []=ĵ (þ A !=0) (ã A):=by
  unfold br ĵ;rw[a.1];cases h2:bW (hd A)with
  |false=>rfl
  |true=>rw[a.2 h2];rfl
 rw[d];rcases Eb b with rfl|rfl<;>rfl
def Wp(w)(h:¬w=[126]):ã (jr w)=w:=by
 unfold jr;split
 next e=>
  match w,e with
  |c::r,e=>cases e;rfl
 .rfl
def Wq{w}(a:bW w=true)(A B):hd (two (sg w) A B)=w:=by rcases Ae a with rfl|rfl|rfl|rfl<;>rfl
def Wr{w}(a:gY w=true)(A):hd (aeO w A)=w:=by rcases Eb a with rfl|rfl<;>rfl
def Ws(w):hd (jr w)=w:=by
 unfold jr;split
 next e=>
  match w,e with
  |c::r,e=>cases e;rfl
 .rfl
def Wt(c)(A B):Ý (two c A B)=1+max (Ý A) (Ý B):=by
 unfold two;split
 .rfl
 .split
  .rfl
  .split<;>rfl
def Wu(w)(A):Ý (aeO w A)=1+Ý A:=by unfold aeO;split<;>rfl
def Wv(w):Ý (jr w)=1:=by unfold jr;split<;>rfl
theorem K7:∀{d:List Ä}{st:List Â},(∀w∈d,da w=true\/c2 λn a=>Õ a=true/\w=aw n a)->aeP d=O st->∀A∈st,aE A=true
|[],st,_,h,A,b=>by
 have:st=[]:=by simpa[aeP]using h.symm
 subst this;cases b
|w::d,st,hw,h,A,b=>by
 have h:(aeP d).bind (ly w)=O st:=h;cases e:aeP d with
 |none=>rw[e]at h;cases h
 |some s=>
  rw[e]at h;have c:=K7 (λv g=>hw v<|f8 _ g) e;rcases Ad h with⟨_,X,Y,r,rfl,rfl⟩|⟨_,_,X,r,rfl,rfl⟩|⟨h2,h1,rfl⟩
  .rcases a_.mp b with rfl|b
   .rw[zW,c X (by simp),c Y (by simp)];rfl
   .exact c A (by simp[b])
  .rcases a_.mp b with rfl|b
   .have:=c X (by simp);unfold aeO;split<;>exact this
   .exact c A (by simp[b])
  .rcases a_.mp b with rfl|b
   .rcases hw w (by simp)with z|⟨n,a,f,rfl⟩
    .unfold da at z;rw[h1,h2]at z;cases z
    .rw[K5 f];exact f
   .exact c A b
theorem jM:∀{A:Â},aE A=true->∀w∈wd A,da w=true\/c2 λn a=>Õ a=true/\w=aw n a
|.atom n a,h,w,hw=>.inr ⟨n,a,h,by simpa[wd]using hw⟩
|.tensor A B,h,w,hw|.par A B,h,w,hw|.wth A B,h,w,hw|.plus A B,h,w,hw=>by
 simp only[aE,aS]at h;rcases a_.mp hw with rfl|hw
 .exact .inl J
 .exact(d6.mp hw).elim (jM h.1 w)<|jM h.2 w
|.ofc A,h,w,hw|.whn A,h,w,hw=>by
 rcases a_.mp hw with rfl|hw
 .exact .inl J
 .exact jM (A:=A) h w hw
def K8(h:aE A=true):∀w∈wd A,1<=w.length/\w.length<=13:=λw d=>by
 rcases jM h w d with z|⟨n,a,b,rfl⟩
 .unfold da at z;rw[j3]at z;rcases z with z|z
  .rcases Ae z with rfl|rfl|rfl|rfl<;>decide
  .rcases Eb z with rfl|rfl<;>decide
 .obtain⟨c,r,rfl,e⟩:=zU b;let:(c::r).length<=12:=by unfold Õ at b;simp only[aS,du]at b;exact b.2.1
  cases n
  .show 1<=(c::r).length/\(c::r).length<=13;simp[aJ]at this⊢;lia
  .show 1<=(126::c::r).length/\(126::c::r).length<=13;simp[aJ]at this⊢;lia
def fw(a:Ô)(G:Â)(w:Ä):List Text:=if w=a then wd G else if w=126::a then wd (Æ G)else[w]
def uG{a}{G}{w}(b:Õ a=true)(h:da w=true):fw a G w=[w]:=by
 have c:da a=false:=by have:=ir (n:=false) b;unfold da;rw[show a=aw false a from J,this.1,this.2];rfl
 have d:da (126::a)=false:=by rfl
 unfold fw;rw[ai (λz=>by rw[z,c]at h;cases h),ai (λz=>by rw[z,d]at h;cases h)]
def Ww(d:Õ a=true)(c:Õ b=true):fw a G (aw n b)=wd (if b=a then(if n=true then Æ G else G)else .atom n b):=by
 unfold fw;by_cases e:b=a
 .subst e;rw[aj J];cases n with
  |false=>show(if b=b then wd G else _)=wd G;rw[aj J]
  |true=>show(if aw true b=b then wd G else if aw true b=126::b then wd (Æ G)else[aw true b])=wd (Æ G);rw[ai λz=>by let:=(D_ (m:=false) c c z).1;cases this];exact aj J
 .rw[ai<|show ¬aw n b=a from λz=>e (D_ (m:=false) c d z).2,ai<|show ¬aw n b=126::a from λz=>e (D_ (m:=true) c d z).2,ai e];rfl
theorem jN{a:Ô}{G:Â}(c:Õ a=true):∀{A:Â},aE A=true->wd (Ò a G A)=(wd A).flatMap (fw a G)
|.atom n b=>λh=>by
 show _=[aw n b].flatMap _;rw[List.flatMap_singleton,Ww c h];show wd (ħ _<|.atom n b)=_;unfold ħ;by_cases e:b=a
 .rw[aj e,aj e]
 .rw[ai e,ai e]
|.tensor A B=>λh=>by
 simp only[aE,aS]at h;show[42]::(wd (Ò a G A)++wd (Ò a G B))=([42]::(wd A++wd B)).flatMap _;rw[l8,vn,jN c h.1,jN c h.2,uG c J];rfl
|.par A B=>λh=>by
 simp only[aE,aS]at h;show[124]::(wd (Ò a G A)++wd (Ò a G B))=([124]::(wd A++wd B)).flatMap _;rw[l8,vn,jN c h.1,jN c h.2,uG c J];rfl
|.wth A B=>λh=>by
 simp only[aE,aS]at h;show[38]::(wd (Ò a G A)++wd (Ò a G B))=([38]::(wd A++wd B)).flatMap _;rw[l8,vn,jN c h.1,jN c h.2,uG c J];rfl
|.plus A B=>λh=>by
 simp only[aE,aS]at h;show[43]::(wd (Ò a G A)++wd (Ò a G B))=([43]::(wd A++wd B)).flatMap _;rw[l8,vn,jN c h.1,jN c h.2,uG c J];rfl
|.ofc A=>λh=>by show[33]::wd (Ò a G A)=([33]::wd A).flatMap _;rw[l8,jN (A:=A) c h,uG c J];rfl
|.whn A=>λh=>by show[63]::wd (Ò a G A)=([63]::wd A).flatMap _;rw[l8,jN (A:=A) c h,uG c J];rfl
theorem jt{a:Ô}{G:Â}(c:aE G=true):∀{A:Â},aE A=true->aE (Ò a G A)=true
|.atom n b,h=>by
 show aE (ħ _<|.atom n b)=true;unfold ħ;by_cases e:b=a
 .rw[aj e];show aE (if n=true then Æ G else G)=true;split
  .rw[gh];exact c
  .exact c
 .rw[ai e];exact h
|.tensor A B,h|.par A B,h|.wth A B,h|.plus A B,h=>by simp only[aE,aS]at h;show(aE (Ò a G A)&&aE (Ò a G B))=true;rw[jt c h.1,jt c h.2];rfl
|.ofc A,h|.whn A,h=>jt (A:=A) c h
theorem K9{f:Ä->List Ä}:∀{l:List Ä},(∀w∈l,f w=[w])->l.flatMap f=l
|[]=>λ_=>rfl
|w::r=>λh=>by rw[l8,h w Gc,K9 λv a=>h v (by simp[a])];rfl
def Wx{a}{G}(c:Õ a=true)(d:aE G=true){A}(h:aE A=true)(h1:a∉wd A)(h2:(126::a)∉wd A):Ò a G A=A:=by
 refine Ea (jt d h) h ?_;rw[jN c h];refine K9 λw b=>?_;unfold fw;rw[ai<|show ¬w=a from λz=>h1 (z▸b),ai<|show ¬w=126::a from λz=>h2 (z▸b)]
noncomputable def lw(w:Ä):Nat:=if w=[42]then 2 else if w=[124]then 3 else if w=[38]then 4 else if w=[43]then 3 else if w=[33]then 3 else if w=[63]then 2 else 1
def Wy{n}{a}(h:Õ a=true):lw (aw n a)=1:=by let h2:=(ir (n:=n) h).1;let h1:=(ir (n:=n) h).2;unfold bW at h2;unfold gY at h1;simp[OS]at h1 h2;unfold lw;rw[ai h2.1,ai h2.2.1,ai h2.2.2.1,ai h2.2.2.2,ai h1.1,ai h1.2]
theorem lC:∀{A:Â},aE A=true->((wd A).map lw).sum=à A
|.atom n a,h=>by show(lw (aw n a)+0)=1;rw[Wy h]
|.tensor A B,h=>by simp only[aE,aS]at h;show 2+((wd A++wd B).map lw).sum=_;rw[bU,xM,lC h.1,lC h.2];simp only[à];lia
|.par A B,h|.plus A B,h=>by simp only[aE,aS]at h;show 3+((wd A++wd B).map lw).sum=_;rw[bU,xM,lC h.1,lC h.2];simp only[à];lia
|.wth A B,h=>by simp only[aE,aS]at h;show 4+((wd A++wd B).map lw).sum=_;rw[bU,xM,lC h.1,lC h.2];simp only[à];lia
|.ofc A,h=>by show 3+((wd A).map lw).sum=_;rw[lC (A:=A) h];simp only[à];lia
|.whn A,h=>by show 2+((wd A).map lw).sum=_;rw[lC (A:=A) h];simp only[à];lia
end
section
open Vaneta Vanetb
def kz(A:Â)(S:È):Prop:=∃B∈S,B=A\/B=.whn A\/(∃C,B=.plus A C)\/∃C,B=.plus C A
structure K_(l:ê):Prop where
 len:l.sequent.length<=20
 ok:∀A∈l.sequent,aE A=true/\Ø A=true
 rf:∀A,ad0 l.rule=O A->aE A=true/\kz A l.sequent
structure cj(P:Ê):Prop where
 len:P.length<=200
 down:jK P
 jh:∀l∈P,K_ l
 cons:∀(i:Nat)(l:ê),P[i]?=O l->Þ (Î P) l.rule=.ok l.sequent
def Af:cj []:=⟨gn,λi l h=>by simp at h,λl h=>by simp at h,λi l h=>by simp at h⟩
def wZ{r}(h:∀j∈Ë r,sq j=a j):Þ sq r=Þ a r:=by cases r<;>simp[Ë]at h<;>simp[Þ,h]
def K'(sq:Nat->È)(f:Nat->Nat)(r):Þ sq (ð f r)=Þ (λi=>sq (f i)) r:=by cases r<;>rfl
def La{P}{i:Nat}(h:i<P.length)(L):Î (P++L) i=Î P i:=by unfold Î;rw[jX h]
def kC(h:Ø A=true):Å A<=200/\Ý A<=40/\ï A<=60:=by unfold Ø at h;simp[du]at h;exact⟨h.2.1,h.2.2,h.1⟩
def jO{A B}(h:Ø B=true)(h1:Å A<=Å B)(h2:Ý A<=Ý B)(d:ï A<=ï B):Ø A=true:=by obtain⟨a,b,c⟩:=kC h;unfold Ø;simp;lia
def kz.vJ(h:kz A S)(a:∀B∈S,Ø B=true):Ø A=true:=by
 obtain⟨B,b,rfl|rfl|⟨C,rfl⟩|⟨C,rfl⟩⟩:=h
 .exact a _ b
 .exact jO (a _ b) Od Of (by simp only[ï];lia)
 .exact jO (a _ b) (by simp[Å];lia) (by simp[Ý];lia) (by simp only[ï];lia)
 .exact jO (a _ b) Od (by simp[Ý];lia) (by simp only[ï];lia)
def cj.seq(h:cj P)(i:Nat):∀A∈Î P i,aE A=true/\Ø A=true:=λA a=>by
 unfold Î at a;cases e:P[i]? with
 |none=>rw[e]at a;simp at a
 |some l=>rw[e]at a;exact(h.jh l<|bM e).ok A a
def cj.Ed(h:cj P)(i:Nat):(Î P i).length<=20:=by
 unfold Î;cases e:P[i]? with
 |none=>simp
 |some l=>exact(h.jh l<|bM e).len
def aeQ(h:A∈wo ps S):A∈S:=by obtain⟨y,a,rfl⟩:=bZ.mp h;exact OT (r_.mp a).1
def aeR{S}{p:Nat}(h:p<S.length):bu S p∈S:=by unfold bu;exact jy▸bL h▸Br h
def afy(h:bI [S] [p]=true):p<S.length:=by simpa[bI]using h
def afU(h:bI [S] [p,q]=true):p<S.length/\q<S.length/\p≠q:=by simp[bI]at h;exact⟨h.1.1,h.1.2,h.2⟩
def afV(h:bI [S,T] [p,q]=true):p<S.length/\q<T.length:=by simp[bI]at h;exact⟨h.1,h.2⟩
def Lb{r}(b:∀i,∀A∈sq i,aE A=true)(c:∀A,ad0 r=O A->aE A=true)(st:bI ((Ë r).map sq) (bR r)=true):∀A∈aeM sq r,aE A=true:=by
 have w:∀ps i,∀A∈wo ps<|sq i,aE A=true:=λps i A h=>b i A<|aeQ h;have a:∀i p,p<(sq i).length->aE (bu (sq i) p)=true:=λi p h=>b i _<|aeR h;have c8:∀L B,(∀A∈L,aE A=true)->aE B=true->∀A∈L++[B],aE A=true:=λL B h1 h2 A h=>by
  rcases d6.mp h with h|h
  .exact h1 A h
  .exact F_.mp h▸h2
 have two:∀L M,(∀A∈L,aE A=true)->(∀A∈M,aE A=true)->∀A∈L++M,aE A=true:=λL M h1 h2 A h=>(d6.mp h).elim (h1 A)<|h2 A;cases r with
 |ax B=>
  intro A h;have d:=c B J;have h:A=B\/A=Æ B:=by simpa[aeM]using h
  rcases h with rfl|rfl
  .exact d
  .rw[gh];exact d
 |cut i p j q=>exact two _ _ (w _ _)<|w _ _
 |tensor i p j q=>exact c8 _ _ (two _ _ (w _ _)<|w _ _) (by obtain⟨x,y⟩:=afV st;show(aE _&&aE _)=true;rw[a i p x,a j q y];rfl)
 |par i p q=>exact c8 _ _ (w _ _) (by obtain⟨x,y,_⟩:=afU st;show(aE _&&aE _)=true;rw[a i p x,a i q y];rfl)
 |wth i p j q=>exact c8 _ _ (w _ _) (by obtain⟨x,y⟩:=afV st;show(aE _&&aE _)=true;rw[a i p x,a j q y];rfl)
 |plus1 i p B|plus2 i p B=>exact c8 _ _ (w _ _) (by show(aE _&&aE _)=true;rw[a i p<|afy st,c B J];rfl)
 |der i p|prom i p=>exact c8 _ _ (w _ _)<|a i p<|afy st
 |weak i B=>exact c8 _ _ (b i)<|c B J
 |con i p q=>exact c8 _ _ (w _ _)<|a i p (afU st).1
 |ex i p q=>
  intro A h;rcases xN h with h|rfl
  .rcases xN h with h|rfl
   .exact b i A h
   .exact a i q (afU st).2.1
  .exact a i p (afU st).1
def Lc{r}{A}(h:ad0 r=O A):kz A (aeM sq r):=by
 cases r with
 |ax B=>cases h;exact⟨A,by simp[aeM],.inl J⟩
 |plus1 i p B=>cases h;exact⟨.plus (bu (sq i) p) A,by simp[aeM],.inr<|.inr<|.inr ⟨_,J⟩⟩
 |plus2 i p B=>cases h;exact⟨.plus A<|bu (sq i) p,by simp[aeM],.inr<|.inr<|.inl ⟨_,J⟩⟩
 |weak i B=>cases h;exact⟨.whn A,by simp[aeM],.inr<|.inl J⟩
 |_=>exact eG h
def cj.snoc(h:cj P)(f:P.length<200)(d:∀j∈Ë l.rule,j<P.length)(hk:K_ l)(a:Þ (Î P) l.rule=.ok l.sequent):cj (P++[l]):=by
 refine⟨by simp;lia,λi m e j b=>?_,λm a=>?_,λi m e=>?_⟩
 .by_cases q:i<P.length
  .rw[jX q]at e;exact h.down i m e j b
  .rw[lY Z]at e;have c:i-P.length=0:=by
    by_cases z:i-P.length=0
    .exact z
    .rw[j0 (by simp_all)]at e;cases e
   rw[c]at e;cases e;have:=d j b;lia
 .rcases d6.mp a with a|a
  .exact h.jh m a
  .exact F_.mp a▸hk
 .by_cases q:i<P.length
  .rw[jX q]at e;rw[<-h.cons i m e];exact wZ λj b=>La (by have:=h.down i m e j b;lia) _
  .rw[lY Z]at e;have c:i-P.length=0:=by
    by_cases z:i-P.length=0
    .exact z
    .rw[j0 (by simp_all)]at e;cases e
   rw[c]at e;cases e;rw[<-a];exact wZ λj b=>La (d j b) _
def qb{A}{b}{n:Nat}{x:Except Nat A}{y:A}(h:after b n x=.ok y):b=true/\x=.ok y:=by
 unfold after at h;split at h
 next e=>exact⟨e,h⟩
 .cases h
def Wz{r}(h:cj P)(d:∀A,ad0 r=O A->aE A=true)(e:ġ P r=.ok Q):cj Q:=by
 obtain⟨f,e⟩:=qb e;obtain⟨e2,e⟩:=qb e;rw[qa]at e;unfold aeN at e;by_cases st:bI ((Ë r).map<|Î P) (bR r)=true
 .rw[aj st]at e;by_cases b:aeF (Î P) r=true
  .rw[aj b]at e;obtain⟨c,e⟩:=qb e;obtain⟨g,e⟩:=qb e;cases e;simp[dQ]at f c g;refine h.snoc g (λj k=>f j k) ⟨c.1,λA a=>⟨Lb (λi A a=>(h.seq i A a).1) d st A a,c.2 A a⟩,λA a=>⟨d A a,Lc a⟩⟩ (by rw[qa];unfold aeN;rw[aj st,aj b])
  .rw[ai b]at e;cases e
 .rw[ai st]at e;cases e
def cj.drop(h:cj P):cj P.dropLast:=by
 refine⟨by have:=h.len;simp;lia,λi l e=>h.down i l ?_,λl a=>h.jh l<|(List.dropLast_subset P) a,λi l e=>?_⟩
 .rw[Bz]at e;split at e
  .exact e
  .cases e
 .rw[Bz]at e;split at e
  next q=>
   rw[<-h.cons i l e];refine wZ λj b=>?_;have:=h.down i l e j b;unfold Î;rw[Bz,aj Z]
  .cases e
def Ee(h:ß t=O A):aE A=true/\Ø A=true:=by
 unfold ß at h;cases e:ĕ t with
 |none=>rw[e]at h;exact eG h
 |some B=>
  rw[e]at h;let h:(if Ø B=true then O B else U)=O A:=h;split at h
  next q=>cases h;exact⟨V2 e,q⟩
  .cases h
end
section
open Vaneta Vanetb
def Ag(h:Þ (Î P) r=.ok S):Ö P r=P++[⟨r,S⟩]:=by unfold Ö;rw[h]
def bq(P)(r):(Ö P r).length=P.length+1:=by unfold Ö;simp
def Ld{P}{i:Nat}(h:i<P.length)(L):Î (P++L) i=Î P i:=by unfold Î;rw[jX h]
def Le(P)(l):Î (P++[l]) P.length=l.sequent:=by unfold Î;rw[lY<|aN _];simp
def cE(h:Þ (Î P) r=.ok S):Î (Ö P r) P.length=S:=by rw[Ag h,Le]
def fe(P)(r){i:Nat}(h:i<P.length):Î (Ö P r) i=Î P i:=by exact Ld h _
noncomputable def ap:Â->Ê->Ê
|.atom n a,Q=>Ö Q<|.ax<|.atom n a
|.tensor X Y,Q=>Ö (Ö (ap Y<|ap X Q)<|.tensor ((ap X Q).length-1) 0 ((ap Y<|ap X Q).length-1) 0)<|.par (ap Y<|ap X Q).length 0 1
|.par X Y,Q=>Ö (Ö (Ö (ap Y<|ap X Q)<|.tensor ((ap X Q).length-1) 1 ((ap Y<|ap X Q).length-1) 1)<|.par (ap Y<|ap X Q).length 0 1)<|.ex ((ap Y<|ap X Q).length+1) 0 1
|.wth X Y,Q=>
 let Q1:=Ö (ap X Q)<|.plus1 ((ap X Q).length-1) 1<|Æ Y;let Q2:=ap Y Q1
 Ö (Ö (Ö Q2<|.plus2 (Q2.length-1) 1<|Æ X)<|.wth (Q1.length-1) 0 Q2.length 0)<|.ex (Q2.length+1) 0 1
|.plus X Y,Q=>
 let Q1:=Ö (ap X Q)<|.plus1 ((ap X Q).length-1) 0 Y;let Q2:=ap Y Q1
 Ö (Ö Q2<|.plus2 (Q2.length-1) 0 X)<|.wth (Q1.length-1) 0 Q2.length 0
|.ofc X,Q=>Ö (Ö (Ö (ap X Q)<|.der ((ap X Q).length-1) 1)<|.prom (ap X Q).length 0)<|.ex ((ap X Q).length+1) 0 1
|.whn X,Q=>Ö (Ö (ap X Q)<|.der ((ap X Q).length-1) 0)<|.prom (ap X Q).length 0
theorem iu:∀(A:Â)(n:Nat),(Ř n A).length=à A
|.atom _ _,_=>rfl
|.tensor X Y,n|.par X Y,n=>by simp only[Ř,à,bw,iu X,iu Y,aJ,f9]
|.wth X Y,n|.plus X Y,n=>by simp only[Ř,à,bw,iu X,iu Y,aJ,f9];lia
|.ofc X,n|.whn X,n=>by simp only[Ř,à,bw,iu X,aJ,f9]
theorem bN:∀(A:Â)(Q:Ê),(ap A Q).length=Q.length+à A
|.atom _ _,Q=>bq _ _
|.tensor X Y,Q|.par X Y,Q|.wth X Y,Q|.plus X Y,Q=>by simp only[ap,bq,bN X,bN Y,à];lia
|.ofc X,Q|.whn X,Q=>by simp only[ap,bq,bN X,à];lia
def d4(A):1<=à A:=by cases A<;>simp[à]<;>omega
theorem lD:∀(A:Â)(Q:Ê),ap A Q=(Ř Q.length A).foldl Ö Q
|.atom _ _,Q=>rfl
|.tensor X Y,Q|.par X Y,Q=>by let b:=lD X Q;let e2:=lD Y<|ap X Q;let a:=bN X Q;let l2:=bN Y<|ap X Q;simp only[Ř,sI,jf,List.foldl_nil,iu];rw[<-b,<-a,<-e2,<-l2];rfl
|.wth X Y,Q=>by let b:=lD X Q;let a:=bN X Q;simp only[Ř,sI,jf,List.foldl_nil,iu,bw,aJ,f9];let e2:=lD Y<|Ö (ap X Q)<|.plus1 ((ap X Q).length-1) 1 (Æ Y);let l2:=bN Y<|Ö (ap X Q)<|.plus1 ((ap X Q).length-1) 1<|Æ Y;rw[bq,a]at e2 l2;rw[<-b,show Q.length+(à X+(0+1))=Q.length+à X+1 by lia,<-e2,<-l2];simp only[ap,bq,a]
|.plus X Y,Q=>by let b:=lD X Q;let a:=bN X Q;simp only[Ř,sI,jf,List.foldl_nil,iu,bw,aJ,f9];let e2:=lD Y<|Ö (ap X Q)<|.plus1 ((ap X Q).length-1) 0 Y;let l2:=bN Y<|Ö (ap X Q)<|.plus1 ((ap X Q).length-1) 0 Y;rw[bq,a]at e2 l2;rw[<-b,show Q.length+(à X+(0+1))=Q.length+à X+1 by lia,<-e2,<-l2];simp only[ap,bq,a]
|.ofc X,Q|.whn X,Q=>by let b:=lD X Q;let a:=bN X Q;simp only[Ř,sI,jf,List.foldl_nil,iu];rw[<-b,<-a];rfl
theorem fO:∀(A:Â)(Q:Ê){i:Nat},i<Q.length->Î (ap A Q) i=Î Q i
|.atom _ _=>λQ i h=>fe _ _ h
|.tensor X Y=>λQ i h=>by let a:=bN X Q;let l2:=bN Y<|ap X Q;rw[ap,fe _ _ (by rw[bq];omega),fe _ _ Z,fO Y _ Z,fO X _ h]
|.par X Y=>λQ i h=>by let a:=bN X Q;let l2:=bN Y<|ap X Q;rw[ap,fe _ _ (by rw[bq,bq];omega),fe _ _ (by rw[bq];omega),fe _ _ Z,fO Y _ Z,fO X _ h]
|.wth X Y=>λQ i h=>by let a:=bN X Q;let b:=bq (ap X Q)<|.plus1 ((ap X Q).length-1) 1 (Æ Y);let l2:=bN Y<|Ö (ap X Q)<|.plus1 ((ap X Q).length-1) 1<|Æ Y;rw[ap,fe _ _ (by rw[bq,bq];omega),fe _ _ (by rw[bq];omega),fe _ _ Z,fO Y _ Z,fe _ _ Z,fO X _ h]
|.plus X Y=>λQ i h=>by let a:=bN X Q;let b:=bq (ap X Q)<|.plus1 ((ap X Q).length-1) 0 Y;let l2:=bN Y<|Ö (ap X Q)<|.plus1 ((ap X Q).length-1) 0 Y;rw[ap,fe _ _ (by rw[bq];omega),fe _ _ Z,fO Y _ Z,fe _ _ Z,fO X _ h]
|.ofc X=>λQ i h=>by let a:=bN X Q;rw[ap,fe _ _ (by rw[bq,bq];omega),fe _ _ (by rw[bq];omega),fe _ _ Z,fO X _ h]
|.whn X=>λQ i h=>by let a:=bN X Q;rw[ap,fe _ _ (by rw[bq];omega),fe _ _ Z,fO X _ h]
def Ef{X a Y b}(hi:sq i=[X,a])(c:sq j=[Y,b]):Þ sq (.tensor i 0 j 0)=.ok [a,b,.tensor X Y]:=by simp[Þ,hi,c];rfl
def Eg{X a Y b}(hi:sq i=[X,a])(c:sq j=[Y,b]):Þ sq (.tensor i 1 j 1)=.ok [X,Y,.tensor a b]:=by simp[Þ,hi,c];rfl
def uH{A B C}(hi:sq i=[A,B,C]):Þ sq (.par i 0 1)=.ok [C,.par A B]:=by simp[Þ,hi];rfl
def rJ{A B}(hi:sq i=[A,B]):Þ sq (.ex i 0 1)=.ok [B,A]:=by simp[Þ,hi];rfl
def Eh{X a Y}(hi:sq i=[X,a]):Þ sq (.plus1 i 0 Y)=.ok [a,.plus X Y]:=by simp[Þ,hi];rfl
def Ei{X a Y}(hi:sq i=[X,a]):Þ sq (.plus1 i 1 Y)=.ok [X,.plus a Y]:=by simp[Þ,hi];rfl
def Ej{Y a X}(hi:sq i=[Y,a]):Þ sq (.plus2 i 0 X)=.ok [a,.plus X Y]:=by simp[Þ,hi];rfl
def Ek{Y a X}(hi:sq i=[Y,a]):Þ sq (.plus2 i 1 X)=.ok [Y,.plus X a]:=by simp[Þ,hi];rfl
def uI{A B C}(hi:sq i=[A,C])(a:sq j=[B,C]):Þ sq (.wth i 0 j 0)=.ok [C,.wth A B]:=by
 simp[Þ,hi,a];show after (decide ([C]=[C])) 5 _=_;rw[bP J];rfl
def El{X a}(hi:sq i=[X,a]):Þ sq (.der i 0)=.ok [a,.whn X]:=by simp[Þ,hi];rfl
def Em{X a}(hi:sq i=[X,a]):Þ sq (.der i 1)=.ok [X,.whn a]:=by simp[Þ,hi];rfl
def uJ{X B}(hi:sq i=[X,.whn B]):Þ sq (.prom i 0)=.ok [.whn B,.ofc X]:=by simp[Þ,hi];rfl
def qc(m:Þ (Î P) r=.ok S):Î (Ö P r) ((Ö P r).length-1)=S:=by rw[bq];exact cE m
theorem eK:∀(A:Â)(Q:Ê),Î (ap A Q) ((ap A Q).length-1)=[A,Æ A]
|.atom n a=>λQ=>by rw[ap,bq];exact cE J
|.tensor X Y=>λQ=>by have h1:=eK X Q;have h2:=eK Y<|ap X Q;have f:=bN X Q;have g:=d4 X;have l2:=bN Y<|ap X Q;have p2:=d4 Y;rw[<-fO Y (ap X Q) Z]at h1;have b:=Ef h1 h2;have c:=uH<|cE b;rw[ap,bq,show ∀n,n+1-1=n from λn=>J,cE c];rfl
|.par X Y=>λQ=>by have h1:=eK X Q;have h2:=eK Y<|ap X Q;have f:=bN X Q;have g:=d4 X;have l2:=bN Y<|ap X Q;have p2:=d4 Y;rw[<-fO Y (ap X Q) Z]at h1;have b:=Eg h1 h2;have c:=uH<|cE b;have d:=cE c;rw[bq]at d;rw[ap,bq,show ∀n,n+1-1=n from λn=>J,cE<|rJ d];rfl
|.wth X Y=>λQ=>by have h1:=eK X Q;have f:=bN X Q;have g:=d4 X;have b:=Ei (Y:=Æ Y) h1;have e:=cE b;have h:=bq (ap X Q)<|.plus1 ((ap X Q).length-1) 1 (Æ Y);have h2:=eK Y<|Ö (ap X Q)<|.plus1 ((ap X Q).length-1) 1 (Æ Y);have l2:=bN Y<|Ö (ap X Q)<|.plus1 ((ap X Q).length-1) 1 (Æ Y);have p2:=d4 Y;rw[<-fO Y _ Z]at e;have c:=Ek (X:=Æ X) h2;have i:=cE c;rw[<-fe _ (.plus2 ((ap Y<|Ö (ap X Q)<|.plus1 ((ap X Q).length-1) 1<|Æ Y).length-1) 1<|Æ X) Z]at e;have d:=uI e i;have j:=cE d;rw[bq]at j;rw[ap,h];exact qc<|rJ j
|.plus X Y=>λQ=>by have h1:=eK X Q;have f:=bN X Q;have g:=d4 X;have b:=Eh (Y:=Y) h1;have e:=cE b;have h:=bq (ap X Q)<|.plus1 ((ap X Q).length-1) 0 Y;have h2:=eK Y<|Ö (ap X Q)<|.plus1 ((ap X Q).length-1) 0 Y;have l2:=bN Y<|Ö (ap X Q)<|.plus1 ((ap X Q).length-1) 0 Y;have p2:=d4 Y;rw[<-fO Y _ Z]at e;have c:=Ej (X:=X) h2;have i:=cE c;rw[<-fe _ (.plus2 ((ap Y<|Ö (ap X Q)<|.plus1 ((ap X Q).length-1) 0 Y).length-1) 0 X) Z]at e;have d:=uI e i;rw[ap,h];exact qc d
|.ofc X=>λQ=>by have h1:=eK X Q;have b:=Em h1;have c:=uJ<|cE b;have d:=cE c;rw[bq]at d;rw[ap,bq,show ∀n,n+1-1=n from λn=>J,cE<|rJ d];rfl
|.whn X=>λQ=>by have h1:=eK X Q;have b:=El h1;have c:=uJ<|cE b;rw[ap,bq,show ∀n,n+1-1=n from λn=>J,cE c];rfl
theorem lE:∀A:Â,Ý (Æ A)=Ý A
|.atom _ _=>rfl
|.tensor A B|.par A B|.wth A B|.plus A B=>by simp only[Æ,Ý,lE A,lE B]
|.ofc A|.whn A=>by simp only[Æ,Ý,lE A]
theorem lF:∀A:Â,ï (Æ A)=ï A
|.atom _ _=>rfl
|.tensor A B|.par A B|.wth A B|.plus A B=>by simp only[Æ,ï,lF A,lF B]
|.ofc A|.whn A=>by simp only[Æ,ï,lF A]
def kE(A):Ø (Æ A)=Ø A:=by unfold Ø;rw[lF,fN,lE]
def Ah(h:Þ sq r=.ok S):bI ((Ë r).map sq) (bR r)=true/\aeF sq r=true/\S=aeM sq r:=by
 rw[qa]at h;unfold aeN at h;split at h
 next h1=>
  split at h
  next h2=>cases h;exact⟨h1,h2,J⟩
  .cases h
 .cases h
def gR(h:cj P)(m:Þ (Î P) r=.ok S)(c:P.length<200)(d:∀j∈Ë r,j<P.length)(b:∀A,ad0 r=O A->aE A=true)(f:S.length<=20)(g:∀A∈S,Ø A=true):cj (Ö P r):=by
 rw[Ag m];obtain⟨st,l,e⟩:=Ah m;refine h.snoc c d ⟨f,λA a=>⟨?_,g A a⟩,λA a=>⟨b A a,?_⟩⟩ m
 .rw[e]at a;exact Lb (λi B k=>(h.seq i B k).1) b st A a
 .show kz A S;exact e▸Lc a
def k6(h:ad0 r=U):∀A,ad0 r=O A->aE A=true:=λA z=>by rw[h]at z;exact eG z
theorem lG:∀{A:Â}{Q:Ê},cj Q->aE A=true->Ø A=true->Q.length+à A<=200->cj (ap A Q)
|.atom n a,Q,h,c,b,i=>gR h J (by have:à (.atom n a)=1:=J;lia) (by simp[Ë]) (λA z=>by cases z;exact c) Gc (by
  intro A t;have t:A=.atom n a\/A=Æ (.atom n a):=by simpa using t
  rcases t with rfl|rfl
  .exact b
  .rw[kE];exact b)
|.tensor X Y,Q,h,c,b,i=>by
 simp only[aE,aS]at c;simp only[à]at i;have d:Ø X=true:=jO b Od Of (by simp only[ï];lia);have j:Ø Y=true:=jO b Od Of (by simp only[ï];lia);have h1:=eK X Q;have h2:=eK Y<|ap X Q;have q:=bN X Q;have r:=d4 X;have l2:=bN Y<|ap X Q;have p2:=d4 Y;have l:=lG (lG h c.1 d Z) c.2 j Z;rw[<-fO Y (ap X Q) Z]at h1;have e:=Ef h1 h2;have m:=gR l e Z (by simp[Ë];lia) (k6 J) Gc (by simp only[a_,fj,fk,ic,ie];exact⟨by rw[kE];exact d,by rw[kE];exact j,b⟩);have g:=uH<|cE e;exact gR m g (by rw[bq];lia) (by simp[Ë,bq]) (k6 J) Gc (by simp only[a_,fj,fk,ic,ie];exact⟨b,by rw[show ϋ (Æ X) (Æ Y)=Æ (.tensor X Y)from J,kE];exact b⟩)
|.par X Y,Q,h,c,b,i=>by
 simp only[aE,aS]at c;simp only[à]at i;have d:Ø X=true:=jO b Od Of (by simp only[ï];lia);have j:Ø Y=true:=jO b Od Of (by simp only[ï];lia);have h1:=eK X Q;have h2:=eK Y<|ap X Q;have q:=bN X Q;have r:=d4 X;have l2:=bN Y<|ap X Q;have p2:=d4 Y;have l:=lG (lG h c.1 d Z) c.2 j Z;rw[<-fO Y (ap X Q) Z]at h1;have e:=Eg h1 h2;have f:Ø (.tensor (Æ X) (Æ Y))=true:=by rw[show ό (Æ X) (Æ Y)=Æ (.par X Y)from J,kE];exact b
 have m:=gR l e Z (by simp[Ë];lia) (k6 J) Gc (by simp only[a_,fj,fk,ic,ie];exact⟨d,j,f⟩);have g:=uH<|cE e;have s:=gR m g (by rw[bq];lia) (by simp[Ë,bq]) (k6 J) Gc (by simp only[a_,fj,fk,ic,ie];exact⟨f,b⟩);have k:=cE g;rw[bq]at k;exact gR s (rJ k) (by rw[bq,bq];lia) (by simp[Ë,bq]) (k6 J) Gc (by simp only[a_,fj,fk,ic,ie];exact⟨b,f⟩)
|.wth X Y,Q,h,c,b,i=>by
 simp only[aE,aS]at c;simp only[à]at i;have d:Ø X=true:=jO b Od Of (by simp only[ï];lia);have j:Ø Y=true:=jO b Od Of (by simp only[ï];lia);have f:Ø (.plus (Æ X) (Æ Y))=true:=by rw[show Ų (Æ X) (Æ Y)=Æ (.wth X Y)from J,kE];exact b
 have h1:=eK X Q;have q:=bN X Q;have r:=d4 X;have p2:=d4 Y;have e:=Ei (Y:=Æ Y) h1;have o:=cE e;have u:=bq (ap X Q)<|.plus1 ((ap X Q).length-1) 1 (Æ Y);have p:=gR (lG h c.1 d Z) e Z (by simp[Ë];lia) (λA z=>by cases z;rw[gh];exact c.2) Gc (by simp only[a_,fj,fk,ic,ie];exact⟨d,f⟩);have h2:=eK Y<|Ö (ap X Q)<|.plus1 ((ap X Q).length-1) 1 (Æ Y);have l2:=bN Y<|Ö (ap X Q)<|.plus1 ((ap X Q).length-1) 1 (Æ Y);have l:=lG p c.2 j Z;rw[<-fO Y _ Z]at o;have g:=Ek (X:=Æ X) h2;have v:=cE g;have m:=gR l g Z (by simp[Ë];lia) (λA z=>by cases z;rw[gh];exact c.1) Gc (by simp only[a_,fj,fk,ic,ie];exact⟨j,f⟩);rw[<-fe _ (.plus2 ((ap Y<|Ö (ap X Q)<|.plus1 ((ap X Q).length-1) 1<|Æ Y).length-1) 1<|Æ X) Z]at o;have k:=uI o v;have s:=gR m k (by rw[bq];lia) (by simp[Ë,bq];lia) (k6 J) Gc (by simp only[a_,fj,fk,ic,ie];exact⟨f,b⟩);have w:=cE k;rw[bq]at w;have x:=gR s (rJ w) (by rw[bq,bq];lia) (by simp[Ë,bq]) (k6 J) Gc (by simp only[a_,fj,fk,ic,ie];exact⟨b,f⟩);rw[ap,u];exact x
|.plus X Y,Q,h,c,b,i=>by
 simp only[aE,aS]at c;simp only[à]at i;have d:Ø X=true:=jO b Od Of (by simp only[ï];lia);have j:Ø Y=true:=jO b Od Of (by simp only[ï];lia);have f:Ø (.wth (Æ X) (Æ Y))=true:=by rw[show ύ (Æ X) (Æ Y)=Æ (.plus X Y)from J,kE];exact b
 have h1:=eK X Q;have q:=bN X Q;have r:=d4 X;have p2:=d4 Y;have e:=Eh (Y:=Y) h1;have o:=cE e;have u:=bq (ap X Q)<|.plus1 ((ap X Q).length-1) 0 Y;have p:=gR (lG h c.1 d Z) e Z (by simp[Ë];lia) (λA z=>by cases z;exact c.2) Gc (by simp only[a_,fj,fk,ic,ie];exact⟨by rw[kE];exact d,b⟩);have h2:=eK Y<|Ö (ap X Q)<|.plus1 ((ap X Q).length-1) 0 Y;have l2:=bN Y<|Ö (ap X Q)<|.plus1 ((ap X Q).length-1) 0 Y;have l:=lG p c.2 j Z;rw[<-fO Y _ Z]at o;have g:=Ej (X:=X) h2;have v:=cE g;have m:=gR l g Z (by simp[Ë];lia) (λA z=>by cases z;exact c.1) Gc (by simp only[a_,fj,fk,ic,ie];exact⟨by rw[kE];exact j,b⟩);rw[<-fe _ (.plus2 ((ap Y<|Ö (ap X Q)<|.plus1 ((ap X Q).length-1) 0 Y).length-1) 0 X) Z]at o;have k:=uI o v;have s:=gR m k (by rw[bq];lia) (by simp[Ë,bq];lia) (k6 J) Gc (by simp only[a_,fj,fk,ic,ie];exact⟨b,f⟩);rw[ap,u];exact s
|.ofc X,Q,h,c,b,i=>by
 simp only[à]at i;have d:Ø X=true:=jO b Od Of (by simp only[ï];lia);have f:Ø (.whn (Æ X))=true:=by rw[show ų (Æ X)=Æ (.ofc X)from J,kE];exact b
 have h1:=eK X Q;have q:=bN X Q;have r:=d4 X;have e:=Em h1;have p:=gR (lG (A:=X) h c d Z) e Z (by simp[Ë];lia) (k6 J) Gc (by simp only[a_,fj,fk,ic,ie];exact⟨d,f⟩);have g:=uJ<|cE e;have l:=gR p g (by rw[bq];lia) (by simp[Ë,bq]) (k6 J) Gc (by simp only[a_,fj,fk,ic,ie];exact⟨f,b⟩);have k:=cE g;rw[bq]at k;exact gR l (rJ k) (by rw[bq,bq];lia) (by simp[Ë,bq]) (k6 J) Gc (by simp only[a_,fj,fk,ic,ie];exact⟨b,f⟩)
|.whn X,Q,h,c,b,i=>by
 simp only[à]at i;have d:Ø X=true:=jO b Od Of (by simp only[ï];lia);have f:Ø (.ofc (Æ X))=true:=by rw[show ώ (Æ X)=Æ (.whn X)from J,kE];exact b
 have h1:=eK X Q;have q:=bN X Q;have r:=d4 X;have e:=El h1;have p:=gR (lG (A:=X) h c d Z) e Z (by simp[Ë];lia) (k6 J) Gc (by simp only[a_,fj,fk,ic,ie];exact⟨by rw[kE];exact d,b⟩);have g:=uJ<|cE e;exact gR p g (by rw[bq];lia) (by simp[Ë,bq]) (k6 J) Gc (by simp only[a_,fj,fk,ic,ie];exact⟨b,f⟩)
def afW:Ù->Option Â
|.ax A=>O A
|_=>U
def fP(x:ê)(new:List Nat)(Q:Ê):Proof:=match afW x.rule with
 |some A=>ap A Q
 |none=>Q++[⟨ð (λi=>new.getD i 0) x.rule,x.sequent⟩]
def lH:Ê->List Nat->Ê->Ê
|[],_,Q=>Q
|x::r,new,Q=>lH r (new++[(fP x new Q).length-1])<|fP x new Q
structure w9(P:Ê)(k:Nat)(new:List Nat)(Q:Ê):Prop where
 len:new.length=k
 lt:∀i n,new[i]?=O n->n<Q.length/\Î Q n=Î P i
def Lf(f:Nat->Nat)(r):Ë (ð f r)=(Ë r).map f:=by cases r<;>rfl
def Lg(f:Nat->Nat)(r):ad0 (ð f r)=ad0 r:=by cases r<;>rfl
def WA(x)(r)(new:List Nat)(Q):Ϻ (x::r) new Q=Ϻ r (new++[((match afW x.rule with
   |some A=>ap A Q
   |none=>Ö Q (ð (λi=>new.getD i 0) x.rule)):Ê).length-1]) (match afW x.rule with
   |some A=>ap A Q
   |none=>Ö Q (ð (λi=>new.getD i 0) x.rule)):=by
 obtain⟨a,sq⟩:=x;cases a<;>simp[Ϻ,afW,lD]
def di(x:ê):Nat:=match afW x.rule with
 |some A=>à A
 |none=>1
def En(x)(new:List Nat)(Q):(fP x new Q).length=Q.length+di x:=by
 unfold fP di;cases afW x.rule with
 |none=>simp
 |some A=>exact bN A Q
def WB(x):1<=di x:=by
 unfold di;cases afW x.rule with
 |none=>exact aN _
 |some A=>exact d4 A
def Eo(h:afW r=O A):r=.ax A:=by cases r<;>first |(cases h;rfl)|exact eG h
def Lh{P}(h:cj P){k:Nat}{x}(f:P[k]?=O x){new:List Nat}{Q}(hk:w9 P k new Q)(o:cj Q)(B:Q.length+di x<=200):w9 P (k+1) (new++[(fP x new Q).length-1]) (fP x new Q)/\cj (fP x new Q)/\(match afW x.rule with
   |some A=>ap A Q
   |none=>Ö Q (ð (λi=>new.getD i 0) x.rule))=fP x new Q:=by
 have g:=h.jh x<|bM f;have s:Î P k=x.sequent:=by unfold Î;rw[f];rfl
 have sl:=En x new Q;have sp:=WB x;have mk:=h.cons k x f;have fin:∀R,R=fP x new Q->(∀i,i<Q.length->Î R i=Î Q i)->Î R (R.length-1)=x.sequent->w9 P (k+1) (new++[(fP x new Q).length-1]) (fP x new Q):=by
  intro R e h1 h2;subst e;refine⟨by simp[hk.len],λi n c=>?_⟩;by_cases q:i<new.length
  .rw[jX q]at c;obtain⟨a,b⟩:=hk.lt i n c;exact⟨Z,by rw[h1 n a,b]⟩
  .rw[lY Z]at c;have t:i-new.length=0:=by
    by_cases z:i-new.length=0
    .exact z
    .rw[j0 (by simp_all)]at c;exact eG c
   rw[t]at c;cases c;have:i=k:=by have:=hk.len;lia
   subst this;exact⟨Z,by rw[h2,s]⟩
 cases e:afW x.rule with
 |some A=>
  have es:fP x new Q=ap A Q:=by unfold fP;rw[e]
  have u:=Eo e;have zs:di x=à A:=by unfold di;rw[e]
  rw[u]at mk;have p:x.sequent=[A,Æ A]:=by
   have:=mk;injection this with this;exact this.symm
  have r:=g.ok A (by simp_all);refine⟨fin (ap A Q) es.symm (λi hi=>fO A Q hi) (by rw[eK,p]),?_,es.symm⟩;rw[es];exact lG o r.1 r.2 Z
 |none=>
  have es:fP x new Q=Q++[⟨ð (λi=>new.getD i 0) x.rule,x.sequent⟩]:=by unfold fP;rw[e]
  have zs:di x=1:=by unfold di;rw[e]
  have pg:=λj d=>by
   have h1:=h.down k x f j d;have h2:new[j]?=O (new.getD j 0):=by
    rw[jy,bL (hk.len▸h1)];rfl
   exact hk.lt j _ h2
  have m:Þ (Î Q) (ð (λi=>new.getD i 0) x.rule)=.ok x.sequent:=by
   rw[K',<-mk];exact wZ λj d=>(pg j d).2
  have v:=Ag m;refine⟨fin _ es.symm (λi hi=>Ld hi _) (by
   exact bw▸Le Q _),?_,es▸v⟩
  rw[es];refine o.snoc Z (λj d=>?_) ⟨g.len,g.ok,λA w=>g.rf A<|w▸(Lg _ _).symm⟩ m;rw[show(⟨ð (λi=>new.getD i 0) x.rule,x.sequent⟩:ê).rule=ð (λi=>new.getD i 0) x.rule from J,Lf]at d;obtain⟨y,l,rfl⟩:=bZ.mp d;exact(pg y l).1
theorem Li:∀(P:Ê)(n:Nat),P.foldl (λn l=>n+match l.rule with
 |.ax A=>à A
 |_=>1) n=n+(P.map di).sum
|[],n=>rfl
|x::r,n=>by
 rw[jf,Li r,bz,l9];let:(match x.rule with
  |.ax A=>à A
  |_=>1)=di x:=by obtain⟨a,sq⟩:=x;cases a<;>rfl
 rw[this];omega
def Ep(P):Ŀ P=(P.map di).sum:=by let h:=Li P 0;rw[mS]at h;exact h
theorem Lj{P:Ê}(b:cj P):∀(r:Ê)(k:Nat)(new:List Nat)(Q:Ê),P.drop k=r->w9 P k new Q->cj Q->Q.length+(r.map di).sum<=200->Ϻ r new Q=lH r new Q/\cj (lH r new Q)
|[],k,new,Q,_,_,a,_=>⟨J,a⟩
|x::r,k,new,Q,hd,hk,a,c=>by
 have d:P[k]?=O x:=by let:=cw ω hd;rw[Óg]at this;simpa using this
 rw[bz,l9]at c;obtain⟨k1,k2,e⟩:=Lh b d hk a Z;rw[WA,e];refine Lj b r (k+1) _ _ ?_ k1 k2 ?_
 .rw[<-so,hd];rfl
 .rw[En];omega
def Lk(a:cj P)(h:Ŀ P<=200):Ψ P=lH P [] []/\cj (lH P [] []):=by rw[Ep]at h;exact Lj a P 0 [] [] J ⟨J,λi n h=>by simp at h⟩ Af (by simp_all)
end
section
open Vaneta Vanetb
structure vK(f:Â->Â):Prop where
 dual:∀A,f (Æ A)=Æ (f A)
 tensor:∀A B,f (.tensor A B)=.tensor (f A) (f B)
 par:∀A B,f (.par A B)=.par (f A) (f B)
 wth:∀A B,f (.wth A B)=.wth (f A) (f B)
 plus:∀A B,f (.plus A B)=.plus (f A) (f B)
 ofc:∀A,f (.ofc A)=.ofc (f A)
 whn:∀A,f (.whn A)=.whn (f A)
theorem lI(a:Ô)(G:Â):∀A:Â,Ò a G (Æ A)=Æ (Ò a G A)
|.atom n b=>by
 show ħ _ (.atom (!n) b)=Æ (ħ _<|.atom n b);unfold ħ;by_cases e:b=a
 .rw[aj e];cases n
  .rfl
  .show G=Æ (Æ G);rw[lu]
 .rw[ai e];rfl
|.tensor A B=>by show ϋ (Ò a G<|Æ A) (Ò a G<|Æ B)=_;rw[lI a G A,lI a G B];rfl
|.par A B=>by show ό (Ò a G<|Æ A) (Ò a G<|Æ B)=_;rw[lI a G A,lI a G B];rfl
|.wth A B=>by show Ų (Ò a G<|Æ A) (Ò a G<|Æ B)=_;rw[lI a G A,lI a G B];rfl
|.plus A B=>by show ύ (Ò a G<|Æ A) (Ò a G<|Æ B)=_;rw[lI a G A,lI a G B];rfl
|.ofc A=>by show ų (Ò a G<|Æ A)=_;rw[lI a G A];rfl
|.whn A=>by show ώ (Ò a G<|Æ A)=_;rw[lI a G A];rfl
def w_(a)(G):vK (Ò a G):=⟨lI a G,λ_ _=>J,λ_ _=>J,λ_ _=>J,λ_ _=>J,λ_=>J,λ_=>J⟩
theorem Er(f:Â->Â)(ps:List Nat):∀(S:È)(k:Nat),(((S.map f).zipIdx k).filter λx=>!(ps.any λp=>p==x.2)).map (·.1)=(((S.zipIdx k).filter λx=>!(ps.any λp=>p==x.2)).map (·.1)).map f
|[]=>λ_=>rfl
|A::r=>λk=>by
 rw[bz,kR,kR,jd,jd];by_cases h:(!(ps.any λp=>p==k))=true
 .simp only[h,fi,bz,Er f ps r (k+1)]
 .simp only[h,i',oK];exact Er f ps r (k+1)
def ju(f)(ps:List Nat)(S):wo ps (S.map f)=(wo ps S).map f:=Er f ps S 0
def hJ(f){S:È}{p:Nat}(h:p<S.length):bu (S.map f) p=f (bu S p):=by unfold bu;rw[jy,jy,aR,bL h];rfl
def Ll{f}(a:vK f){A}(h:ě A=true):ě (f A)=true:=by
 cases A with
 |whn B=>rw[a.whn];rfl
 |_=>cases h
def WD{r}(h1:bI ((Ë r).map sq) (bR r)=true)(h2:aeF sq r=true):aeN sq r=.ok (aeM sq r):=by unfold aeN;rw[aj h1,aj h2]
def kF{r}{S}(h1:bI ((Ë r).map sq) (bR r)=true)(h2:aeF sq r=true)(a:(õ (aeM sq r):Except Nat È)=.ok S):aeN sq r=.ok S:=(WD h1 h2).trans a
def WE{f}(b:vK f){sq:Nat->È}{r}{S}(m:Þ sq r=.ok S):Þ (λi=>(sq i).map f) (ĭ f r)=.ok (S.map f):=by
 obtain⟨st,a,rfl⟩:=Ah m;rw[qa];cases r with
 |ax A=>refine kF J J ?_;show õ [f A,Æ<|f A]=õ [f A,f<|Æ A];rw[b.dual]
 |cut i p j q=>
  obtain⟨h1,h2⟩:=afV st;let a:=dR a;refine kF (show bI [(sq i).map f,(sq j).map f] [p,q]=true by simp[bI,h1,h2]) (show decide (Æ (bu ((sq i).map f) p)=bu ((sq j).map f) q)=true by rw[hJ f h1,hJ f h2,<-b.dual,a];exact bP J) ?_;show õ (wo [p] ((sq i).map f)++wo [q] ((sq j).map f))=õ ((wo [p] (sq i)++wo [q] (sq j)).map f);rw[ju,ju,bU]
 |tensor i p j q=>
  obtain⟨h1,h2⟩:=afV st;refine kF (show bI [(sq i).map f,(sq j).map f] [p,q]=true by simp[bI,h1,h2]) J ?_;show õ (wo [p] ((sq i).map f)++wo [q] ((sq j).map f)++[ό (bu ((sq i).map f) p)<|bu ((sq j).map f) q])=õ ((wo [p] (sq i)++wo [q] (sq j)++[ό (bu (sq i) p)<|bu (sq j) q]).map f);rw[ju,ju,bU,bU,hJ f h1,hJ f h2,oP,b.tensor]
 |par i p q=>
  obtain⟨h1,h2,c⟩:=afU st;refine kF (show bI [(sq i).map f] [p,q]=true by simp[bI,h1,h2,c]) J ?_;show õ (wo [p,q] ((sq i).map f)++[ϋ (bu ((sq i).map f) p)<|bu ((sq i).map f) q])=õ ((wo [p,q] (sq i)++[ϋ (bu (sq i) p)<|bu (sq i) q]).map f);rw[ju,bU,hJ f h1,hJ f h2,oP,b.par]
 |wth i p j q=>
  obtain⟨h1,h2⟩:=afV st;let a:=dR a;refine kF (show bI [(sq i).map f,(sq j).map f] [p,q]=true by simp[bI,h1,h2]) (show decide (wo [p] ((sq i).map f)=wo [q] ((sq j).map f))=true by rw[ju,ju,a];exact bP J) ?_;show õ (wo [p] ((sq i).map f)++[ύ (bu ((sq i).map f) p)<|bu ((sq j).map f) q])=õ ((wo [p] (sq i)++[ύ (bu (sq i) p)<|bu (sq j) q]).map f);rw[ju,bU,hJ f h1,hJ f h2,oP,b.wth]
 |plus1 i p B=>
  let h1:=afy st;refine kF (show bI [(sq i).map f] [p]=true by simp[bI,h1]) J ?_;show õ (wo [p] ((sq i).map f)++[Ų (bu ((sq i).map f) p)<|f B])=õ ((wo [p] (sq i)++[Ų (bu (sq i) p) B]).map f);rw[ju,bU,hJ f h1,oP,b.plus]
 |plus2 i p B=>
  let h1:=afy st;refine kF (show bI [(sq i).map f] [p]=true by simp[bI,h1]) J ?_;show õ (wo [p] ((sq i).map f)++[Ų (f B)<|bu ((sq i).map f) p])=õ ((wo [p] (sq i)++[Ų B<|bu (sq i) p]).map f);rw[ju,bU,hJ f h1,oP,b.plus]
 |der i p=>
  let h1:=afy st;refine kF (show bI [(sq i).map f] [p]=true by simp[bI,h1]) J ?_;show õ (wo [p] ((sq i).map f)++[ų<|bu ((sq i).map f) p])=õ ((wo [p] (sq i)++[ų<|bu (sq i) p]).map f);rw[ju,bU,hJ f h1,oP,b.whn]
 |weak i B=>
  show õ ((sq i).map f++[ų<|f B])=õ ((sq i++[ų B]).map f);rw[bU,oP,b.whn]
 |con i p q=>
  have⟨h1,h2,c⟩:=afU st;let a:(ě (bu (sq i) p)&&decide (bu (sq i) p=bu (sq i) q))=true:=a;rw[aS,du]at a;refine kF (show bI [(sq i).map f] [p,q]=true by simp[bI,h1,h2,c]) (show(ě (bu ((sq i).map f) p)&&decide (bu ((sq i).map f) p=bu ((sq i).map f) q))=true by rw[hJ f h1,hJ f h2,Ll b a.1,a.2];exact bP J) ?_;show õ (wo [p,q] ((sq i).map f)++[bu ((sq i).map f) p])=õ ((wo [p,q] (sq i)++[bu (sq i) p]).map f);rw[ju,bU,hJ f h1,oP]
 |prom i p=>
  let h1:=afy st;refine kF (show bI [(sq i).map f] [p]=true by simp[bI,h1]) (show(wo [p]<|(sq i).map f).all ě=true by rw[ju,oJ,dQ];intro A d;exact Ll b<|dQ.mp a A d) ?_;show õ (wo [p] ((sq i).map f)++[ώ<|bu ((sq i).map f) p])=õ ((wo [p] (sq i)++[ώ<|bu (sq i) p]).map f);rw[ju,bU,hJ f h1,oP,b.ofc]
 |ex i p q=>
  obtain⟨h1,h2,c⟩:=afU st;refine kF (show bI [(sq i).map f] [p,q]=true by simp[bI,h1,h2,c]) J ?_;show õ ((((sq i).map f).set p<|bu ((sq i).map f) q).set q<|bu ((sq i).map f) p)=õ ((((sq i).set p<|bu (sq i) q).set q<|bu (sq i) p).map f);rw[hJ f h1,hJ f h2,xO,xO]
def WF(f)(P)(i:Nat):Î (ÿ f P) i=(Î P i).map f:=by
 unfold Î ÿ;rw[aR];cases P[i]?<;>rfl
def Es(f)(r):ad0 (ĭ f r)=(ad0 r).map f:=by cases r<;>rfl
def Lm(f)(r):Ë (ĭ f r)=Ë r:=by cases r<;>rfl
def kz.map{f:Â->Â}(a:vK f){A:Â}{S:È}(h:kz A S):kz (f A) (S.map f):=by
 obtain⟨B,b,h⟩:=h;refine⟨f B,bZ.mpr ⟨B,b,J⟩,?_⟩;rcases h with rfl|rfl|⟨C,rfl⟩|⟨C,rfl⟩
 .exact .inl J
 .exact .inr<|.inl<|a.whn _
 .exact .inr<|.inr<|.inl ⟨_,a.plus _ _⟩
 .exact .inr<|.inr<|.inr ⟨_,a.plus _ _⟩
def PD:ruleInBounds r=((ad0 r).map Ø).getD true:=by cases r<;>rfl
def Et{f}(b:vK f){P}(h:cj P):ŉ f P=P.all λl=>l.sequent.all λA=>Ø (f A):=by
 unfold ŉ;apply sf.mpr;simp;refine⟨λq l a=>(q l a).2,λq l a=>⟨?_,q l a⟩⟩;rw[PD,Es];cases e:ad0 l.rule with
 |none=>rfl
 |some A=>
  let s:=(h.jh l a).rf A e;refine(kz.map b s.2).vJ λB c=>?_;obtain⟨C,d,rfl⟩:=bZ.mp c;exact q l a C d
def Lo{f}(c:vK f)(g:∀A,aE A=true->aE (f A)=true){P}(h:cj P)(d:ŉ f P=true):cj (ÿ f P):=by
 rw[Et c h]at d;simp[dQ]at d;let get:∀(i:Nat)(l:ê),(ÿ f P)[i]?=O l->∃x,P[i]?=O x/\l=({rule:=ĭ f x.rule,sequent:=x.sequent.map f}:ê):=λi l e=>by
  unfold ÿ at e;rw[aR]at e;cases q:P[i]? with
  |none=>rw[q]at e;exact eG e
  |some x=>rw[q]at e;exact⟨x,J,(cZ e).symm⟩
 refine⟨by unfold ÿ;rw[aK];exact h.len,λi l e j n=>?_,λl p=>?_,λi l e=>?_⟩
 .obtain⟨x,a,rfl⟩:=get i l e;rw[Lm]at n;exact h.down i x a j n
 .obtain⟨i,hi⟩:=OU p;obtain⟨x,a,rfl⟩:=get i l hi;let a:=bM a;let k:=h.jh x a;refine⟨by rw[aK];exact k.len,λA b=>?_,λA b=>?_⟩
  .obtain⟨C,o,rfl⟩:=bZ.mp b;exact⟨g C (k.ok C o).1,d x a C o⟩
  .rw[Es]at b;cases e:ad0 x.rule with
   |none=>rw[e]at b;exact eG b
   |some B=>
    rw[e]at b;cases b;let s:=k.rf B e;exact⟨g B s.1,kz.map c s.2⟩
 .obtain⟨x,a,rfl⟩:=get i l e;let m:=WE c<|h.cons i x a;rw[show Î (ÿ f P)=λi=>(Î P i).map f from qv<|WF f P];exact m
theorem lJ(a b:Ô):∀A:Â,Å (Ò a (.atom false b) A)=Å A/\Ý (Ò a (.atom false b) A)=Ý A/\ï (Ò a (.atom false b) A)=ï A
|.atom n c=>by
 show Å (ħ _<|.atom n c)=1/\Ý (ħ _<|.atom n c)=1/\ï (ħ _<|.atom n c)=1;unfold ħ;by_cases e:c=a
 .rw[aj e];cases n<;>exact⟨J,J,J⟩
 .rw[ai e];exact⟨J,J,J⟩
|.tensor A B|.par A B|.wth A B|.plus A B=>by let h1:=lJ a b A;let h2:=lJ a b B;unfold Ò at h1 h2⊢;simp only[ħ,Å,Ý,ï,h1,h2,xP]
|.ofc A|.whn A=>by let h1:=lJ a b A;unfold Ò at h1⊢;simp only[ħ,Å,Ý,ï,h1,xP]
def WG(a b)(A):Ø (Ò a (.atom false b) A)=Ø A:=by obtain⟨h1,h2,c⟩:=lJ a b A;unfold Ø;rw[h1,h2,c]
def WH{P}(h:cj P)(a b):ŉ (Ò a (.atom false b)) P=true:=by rw[Et (w_ a _) h];simp;intro l c A d;rw[WG];exact((h.jh l c).ok A d).2
end
section
open Vaneta Vanetb
def uK(P:Ê)(n:Nat):List Nat:=((ľ P n).map Ë).getD []
def WI{P}{n:Nat}{l:List Nat}{x:Nat}(h:x∈l):x∈jL P n l:=by
 unfold jL;split
 .exact Ói _ h
 .exact h
theorem Lp{P:Ê}:∀(n:Nat){l:List Nat}{x:Nat},x∈l->x∈Ģ P n l
|0,_,_,h=>h
|n+1,l,x,h=>Lp n<|WI h
def Ai{P}(hd:jK P){n x:Nat}(h:x∈uK P n):x<n:=by
 unfold uK ľ at h;cases e:P[n]? with
 |none=>rw[e]at h;simp at h
 |some a=>rw[e]at h;exact hd n a e x (by simp_all)
theorem Lq{P:Ê}(hd:jK P):∀(n:Nat){l:List Nat}{x:Nat},n<=x+1->x∈Ģ P n l->x∈l
|0,_,_,_,h=>h
|n+1,l,x,a,h=>by
 rw[wY]at h;have h:=Lq hd n Z h;unfold jL at h;split at h
 .rcases d6.mp h with q|q
  .exact q
  .have:=Ai hd q;lia
 .exact h
theorem Lr{P:Ê}(hd:jK P):∀(n:Nat){l:List Nat}{j k:Nat},j∈Ģ P n l->j<n->k∈uK P j->k∈Ģ P n l
|0,_,_,_,_,h,_=>by lia
|n+1,l,j,k,h,a,hk=>by
 rw[wY]at h⊢;by_cases e:j=n
 .subst e;have h1:=Lq hd j Z h;unfold jL at h1;have h2:j∈l:=by
   split at h1
   .rcases d6.mp h1 with q|q
    .exact q
    .have:=Ai hd q;lia
   .exact h1
  refine Lp j ?_;unfold jL;rw[aj<|uE.mpr h2];exact qx _ hk
 .exact Lr hd n h Z hk
def Eu{P}{i x:Nat}(hi:i<P.length):x∈ë P i↔x<P.length/\x∈Ģ P (i+1) [i]:=by unfold ë Äa;rw[r_,D8 P i P.length Z,FN,uE]
def WJ{P}(hd:jK P){i x:Nat}(hi:i<P.length)(h:x∈ë P i):x<=i:=by let:=D9 hd Z (i+1) [i] (aN _) (λy a=>by simp at a;lia) x ((Eu hi).mp h).2;lia
def Ev{P}(hd:jK P){i j k:Nat}(hi:i<P.length)(h:j∈ë P i)(hk:k∈uK P j):k∈ë P i:=by have a:=Ai hd hk;have h1:=WJ hd hi h;have h2:=((Eu hi).mp h);exact(Eu hi).mpr ⟨Z,Lr hd (i+1) h2.2 Z hk⟩
def Ls(P)(i:Nat):(ë P i).Pairwise (· < ·):=afk _ afl
def ma(l:List Nat)(k:Nat):Nat:=l.findIdx λm=>m==k
def Ew(h:k∈l):l[ma l k]?=O k:=by unfold ma;let h1:l.findIdx (λm=>m==k)<l.length:=OV ⟨k,h,sk k⟩;rw[bL h1];let:=afm (w:=h1);rw[eq_of_beq this]
def Lu{l:List Nat}(c:l.Pairwise (· < ·)){i j x y:Nat}(hi:l[i]?=O x)(d:l[j]?=O y):i<j↔x<y:=by
 obtain⟨i1,i2⟩:=b9.mp hi;obtain⟨b,a⟩:=b9.mp d;have p:=List.pairwise_iff_getElem.mp c;constructor
 .intro h;have:=p i j i1 b h;rw[i2,a]at this;exact this
 .intro h;rcases Ëh i j with q|q|q
  .exact q
  .subst q;lia
  .have:=p j i b i1 q;lia
theorem afX{f:Nat->Option ê}{g:Nat->ê}:∀{l:List Nat},(∀x∈l,f x=O (g x))->l.filterMap f=l.map g
|[]=>λ_=>rfl
|x::r=>λh=>by rw[FO,h x Gc,afX λy a=>h y (by simp[a])];rfl
def fQ(P:Ê)(j:Nat):Line:=(P[j]?).getD ⟨.ax aeE,[]⟩
def qd{P}{j:Nat}(h:j<P.length):P[j]?=O (fQ P j):=by unfold fQ;rw[bL h];rfl
def Aj(P:Ê)(u:List Nat)(j:Nat):Line:={fQ P j with rule:=ð (ma u) (fQ P j).rule}
def Ak(P)(i:Nat):Ŋ P i=(ë P i).map (Aj P (ë P i)):=by
 refine afX λx a=>?_;rw[qd<|uF a];rfl
def Ex{P}{i p:Nat}{l}(h:(Ŋ P i)[p]?=O l):∃j,(ë P i)[p]?=O j/\j<P.length/\l=Aj P (ë P i) j:=by
 rw[Ak,aR]at h;cases e:(ë P i)[p]? with
 |none=>rw[e]at h;exact eG h
 |some j=>rw[e]at h;cases h;exact⟨j,J,uF<|bM e,J⟩
def Ey{P}{j:Nat}(h:j<P.length):uK P j=Ë (fQ P j).rule:=by unfold uK ľ;rw[qd h];rfl
def Lv(h:cj P){i:Nat}(hi:i<P.length):cj (Ŋ P i):=by
 have f:=Ls P i;refine⟨?_,λp l e k hk=>?_,λl g=>?_,λp l e=>?_⟩
 .rw[Ak,aK];have:(ë P i).length<=P.length:=by exact d5 (mU _ _) Gc
  have:=h.len;lia
 .obtain⟨j,b,a,rfl⟩:=Ex e;rw[show(Aj P (ë P i) j).rule=ð (ma<|ë P i) (fQ P j).rule from J,Lf]at hk;obtain⟨o,c,rfl⟩:=bZ.mp hk;rw[<-Ey a]at c;have h1:=Ai h.down c;have h2:=Ew<|Ev h.down hi (bM b) c;exact(Lu f h2 b).mpr h1
 .obtain⟨p,m⟩:=OU g;obtain⟨j,b,a,rfl⟩:=Ex m;have k:=h.jh _<|bM<|qd a;exact⟨k.len,k.ok,λA n=>k.rf A<|n▸(Lg _ _).symm⟩
 .obtain⟨j,b,a,rfl⟩:=Ex e;show Þ _ (ð (ma<|ë P i) (fQ P j).rule)=.ok (fQ P j).sequent;rw[K',<-h.cons j _<|qd a];refine wZ λk hk=>?_;rw[<-Ey a]at hk;have d:=Ev h.down hi (bM b) hk;have h2:=Ew d;unfold Î;rw[Ak,aR,h2];rw[qd<|uF d];rfl
def gE(l:List Nat)(x:ê):List Nat:=l++[1+((Ë x.rule).map λi=>l.getD i 0).foldl max 0]
theorem Lw:∀(P:Ê)(l:List Nat),heightsOf P l=P.foldl gE l
|[]=>λ_=>rfl
|x::r=>λl=>Lw r _
theorem Al:∀(P:Ê)(l:List Nat),(P.foldl gE l).length=l.length+P.length
|[]=>λ_=>rfl
|x::r=>λl=>by rw[jf,Al r];unfold gE;simp;lia
theorem Lx:∀(P:Ê)(l:List Nat){i:Nat},i<l.length->(P.foldl gE l).getD i 0=l.getD i 0
|[]=>λ_ _ _=>rfl
|x::r=>λl i h=>by rw[jf,Lx r _ (by unfold gE;simp;lia)];unfold gE;rw[jy,jy,jX h]
def WK(P){i:Nat}(h:i<P.length):ϻ P i=((P.take (i+1)).foldl gE []).getD i 0:=by
 unfold ϻ;rw[Lw];conv=>lhs;rw[<-OP (i+1) P,sI]
 rw[Lx _ _ (by rw[Al,eh];simp;lia)]
def WL(P)(x):(P++[x]).foldl gE []=gE (P.foldl gE []) x:=by rw[sI];rfl
end
section
open Vaneta Vanetb
theorem Ly:∀(l:List Ä),((û (l.map ĕ)).bind λS=>if S.all Ø=true then O S else U)=û (l.map ß)
|[]=>rfl
|t::r=>by
 let b:=Ly r;rw[bz,bz];show((ĕ t).bind λa=>(û<|r.map ĕ).map λl=>a::l).bind _=(ß t).bind λa=>(û<|r.map ß).map λl=>a::l;rw[<-b];unfold ß;cases ĕ t with
 |none=>rfl
 |some A=>
  cases û (r.map ĕ)with
  |none=>
   show U=(if Ø A=true then O A else U).bind _;cases Ø A<;>rfl
  |some S=>
   show(if(Ø A&&S.all Ø)=true then O (A::S)else U)=(if Ø A=true then O A else U).bind λa=>(if S.all Ø=true then O S else U).map λl=>a::l;cases Ø A<;>cases S.all Ø<;>rfl
def Ez(t):Ϗ t=if(t.all λb=>b==32)=true then O []else if 20<(Ú 44 t).length then U else û ((Ú 44 t).map ß):=by
 unfold Ϗ sequentOf;by_cases h:(t.all λb=>b==32)=true
 .rw[aj h,aj h];rfl
 .rw[ai h,ai h];by_cases h2:20<(Ú 44 t).length
  .rw[aj h2,aj h2];rfl
  .rw[ai h2,ai h2,Ly]
def WM(hk:wU kn)(a:kn 44=true)(t):Ϗ (bD kn t)=Ϗ t:=by
 rw[Ez,Ez];let d:((bD kn t).all λb=>b==32)=t.all λb=>b==32:=z0 hk J (λb e=>by rw[eq_of_beq e];exact hk.uD) t;let e2:=z9 hk a nofun t;rw[d,e2,aK,cV];let f:(ß∘bD kn)=theFormula:=qv λx=>wX hk x;rw[f]
def EA(hk:wU kn)(t):Õ (bD kn t)=Õ t:=by
 let e2:((bD kn t).head?).any Ķ=(t.head?).any isSmall:=by
  cases t with
  |nil=>rfl
  |cons b r=>
   show Ķ (if kn b=true then b else 35)=Ķ b;cases a:kn b with
   |true=>rfl
   |false=>
    cases c:Ķ b with
    |false=>rfl
    |true=>let:=hk.bp b (by unfold Ü;rw[c];rfl);rw[a]at this;cases this
 unfold Õ;rw[e2,zZ,z0 hk J (λb a=>hk.bp b a) t]
theorem Lz{A:Type}:∀{l:List (Option A)}{m:List A},û l=O m->l=m.map O
|[],m,h=>by cases h;rfl
|x::r,m,h=>by
 cases x with
 |none=>cases h
 |some a=>
  cases e:û r with
  |none=>rw[show û (O a::r)=(û r).map λl=>a::l from J,e]at h;cases h
  |some k=>rw[show û (O a::r)=(û r).map λl=>a::l from J,e]at h;cases h;rw[Lz e];rfl
theorem LA{A:Type}:∀{l:List (Option A)},û l=U->U∈l
|[]=>λh=>by cases h
|none::r=>λh=>by simp
|some a::r=>λh=>by
 cases e:û r with
 |none=>exact f8 _<|LA e
 |some k=>rw[show û (O a::r)=(û r).map λl=>a::l from J,e]at h;cases h
theorem xa:∀(n:Nat)(t:Ä)(l:List ä),t.length<=n->tk t=O l->l.length<=t.length
|_,[]=>λl _ h=>by rw[DT]at h;cases h;exact aN _
|0,c::r=>λ_ h _=>by simp at h
|n+1,c::r=>λl b h=>by
 simp only[aJ]at b;by_cases h1:c=32
 .subst h1;rw[wR]at h;have:=xa n r l Z h;simp only[aJ];lia
 by_cases h2:Ą c=true
 .rw[ux r h2]at h;cases e:tk r with
  |none=>rw[e]at h;cases h
  |some m=>rw[e]at h;cases h;have:=xa n r m Z e;simp only[aJ];lia
 by_cases d:Ü c=true
 .rw[uz d]at h;split at h
  next f=>
   cases e:tk (r.dropWhile Ü)with
   |none=>rw[e]at h;exact eG h
   |some m=>rw[e]at h;cases h;have g:(r.dropWhile Ü).length<=r.length:=vj (sy _);have:=xa n _ m Z e;simp only[aJ];lia
  .cases h
 by_cases a:c=45/\r.head? =O 111
 .obtain⟨rfl,a⟩:=a;match r,a with
  |_::s,a=>
   cases a;rw[uy]at h;cases e:tk s with
   |none=>rw[e]at h;cases h
   |some m=>rw[e]at h;cases h;simp only[aJ]at b;have:=xa n s m Z e;simp only[aJ];lia
 .rw[rF h1 h2 a d]at h;cases h
def WN(h:ĕ t=O A):Å A<=2000:=by
 rw[wS]at h;split at h
 .cases h
 next a=>
  cases e:tk t with
  |none=>rw[e]at h;cases h
  |some l=>rw[e]at h;have h1:=(DU (n:=0) (x:=([],U)) ⟨J,aN _⟩ (uA _ t l (aN _) e) h).2;have h2:=xa _ t l (aN _) e;have b:¬2000<t.length:=a;lia
end
section
open Vaneta
def WO(w)(A):Å (aeO w A)=1+Å A:=by unfold aeO;split<;>rfl
def WP(w):Å (jr w)=1:=by unfold jr;split<;>rfl
theorem EB:∀{a:List Ä}{st:List Â},aeP a=O st->(st.map Å).sum=a.length
|[],st,h=>by
 have:st=[]:=by simpa[aeP]using h.symm
 subst this;rfl
|w::a,st,h=>by
 have h:(aeP a).bind (ly w)=O st:=h;cases e:aeP a with
 |none=>rw[e]at h;exact eG h
 |some s=>
  rw[e]at h;have b:=EB e;rcases Ad h with⟨_,X,Y,r,rfl,rfl⟩|⟨_,_,X,r,rfl,rfl⟩|⟨h2,h1,rfl⟩
  .simp only[bz,l9,aJ,zV]at b⊢;lia
  .simp only[bz,l9,aJ,WO]at b⊢;lia
  .simp only[bz,l9,aJ,WP];lia
def WQ{l:List Â}{A}(h:A∈l):Å A<=(l.map Å).sum:=by
 induction l with
 |nil=>cases h
 |cons B r a=>
  rw[bz,l9];rcases a_.mp h with rfl|h
  .omega
  .have:=a h;omega
theorem EC:∀(l:List Â),l.length<=(l.map Å).sum
|[]=>aN _
|A::r=>by rw[bz,l9,aJ];have:=EC r;have:=Aa A;lia
def LB{a}{b}{i:Nat}(h:aeP a=O b)(hi:i<a.length){st}(f:aeP (a.drop (a.length-i))=O st):c2 λx c=>a[a.length-1-i]?=O x/\ly x st=O c/\aeP (a.drop (a.length-(i+1)))=O c:=by
 obtain⟨s',h'⟩:=K6 (a.length-(i+1)) h;have d:a.length-(i+1)<a.length:=Z;have e:a.drop (a.length-(i+1))=a[a.length-(i+1)]::a.drop (a.length-i):=by rw[mQ d,show a.length-(i+1)+1=a.length-i by lia]
 refine⟨a[a.length-(i+1)],s',?_,?_,h'⟩
 .rw[show a.length-1-i=a.length-(i+1) by lia,bL d]
 .rw[e]at h';have h':(aeP<|a.drop<|a.length-i).bind (ly _)=O s':=h';rw[f]at h';exact h'
end
section
open Vaneta Vanetb
def ij(c:UInt8):Bool:=decide (c∈([105,106]:Ä))
abbrev Hs:=List Nat×List Nat×Option Â
noncomputable def rd:Ä->List Ä->Hs->Option Hs
|c::ls,t::ts,h=>if c=65 then(ß t).bind λA=>rd ls ts (h.1,h.2.1,O A)else(Û t).bind λn=>rd ls ts (if ij c=true then h.1++[bC n]else h.1,if ij c=true then h.2.1 else h.2.1++[bC n],h.2.2)
|[],[],h=>O h
|_,_,_=>U
noncomputable def fW:Nat->Ä
|0=>[65]
|1|2|4=>[105,112,106,113]
|3|9|11=>[105,112,113]
|5|6=>[105,112,65]
|7|10=>[105,112]
|8=>[105,65]
|_=>[]
def eZ(r:Ù):Hs:=(Ë<|iV r,bR<|iV r,ad0<|iV r)
def WR:∀k,k<12->(fW k).length=(adu k).length:=by decide
def jv(c)(a)(t)(b)(h)(d:¬c=65):rd (c::a) (t::b) h=(Û t).bind λn=>rd a b (if ij c=true then h.1++[bC n]else h.1,if ij c=true then h.2.1 else h.2.1++[bC n],h.2.2):=by show(if c=65 then _ else _)=_;rw[ai d]
def WS(k:Nat)(hk:k<12)(fs)(f:fs.length=(adu k).length):rd (fW k) fs ([],[],U)=((d3 (adu k) fs ([],U)).bind (cD k)).map eZ:=by
 have two:∀(a b:Ä)(F:Nat->Nat->Ù)(e:Nat),(∀i p,cD e ([i,p],U)=O (F i p))->(∀i p,eZ (F i p)=([bC i],[bC p],U))->rd [105,112] [a,b] ([],[],U)=((d3 [false,false] [a,b] ([],U)).bind (cD e)).map eZ:=by
  intro a b F e h1 h2;rw[jv 105 _ _ _ _ nofun];show _=(((Û a).bind λn=>(Û b).bind λm=>O (([]++[n])++[m],U)).bind (cD e)).map eZ;cases Û a with
  |none=>rfl
  |some n=>
   show rd [112] [b] _=_;rw[jv 112 _ _ _ _ nofun];cases Û b with
   |none=>rfl
   |some m=>
    show O _=(cD e ([n,m],U)).map eZ;rw[h1];show _=O (eZ (F n m));rw[h2];rfl
 have xb:∀(a b c:Ä)(F:Nat->Nat->Nat->Ù)(e:Nat),(∀i p q,cD e ([i,p,q],U)=O (F i p q))->(∀i p q,eZ (F i p q)=([bC i],[bC p,bC q],U))->rd [105,112,113] [a,b,c] ([],[],U)=((d3 [false,false,false] [a,b,c] ([],U)).bind (cD e)).map eZ:=by
  intro a b c F e h1 h2;rw[jv 105 _ _ _ _ nofun];show _=(((Û a).bind λn=>(Û b).bind λm=>(Û c).bind λl=>O ((([]++[n])++[m])++[l],U)).bind (cD e)).map eZ;cases Û a with
  |none=>rfl
  |some n=>
   show rd [112,113] [b,c] _=_;rw[jv 112 _ _ _ _ nofun];cases Û b with
   |none=>rfl
   |some m=>
    show rd [113] [c] _=_;rw[jv 113 _ _ _ _ nofun];cases Û c with
    |none=>rfl
    |some l=>
     show O _=(cD e ([n,m,l],U)).map eZ;rw[h1];show _=O (eZ (F n m l));rw[h2];rfl
 have four:∀(a b c d:Ä)(F:Nat->Nat->Nat->Nat->Ù)(e:Nat),(∀i p j q,cD e ([i,p,j,q],U)=O (F i p j q))->(∀i p j q,eZ (F i p j q)=([bC i,bC j],[bC p,bC q],U))->rd [105,112,106,113] [a,b,c,d] ([],[],U)=((d3 [false,false,false,false] [a,b,c,d] ([],U)).bind (cD e)).map eZ:=by
  intro a b c d F e h1 h2;rw[jv 105 _ _ _ _ nofun];show _=(((Û a).bind λn=>(Û b).bind λm=>(Û c).bind λl=>(Û d).bind λo=>O (((([]++[n])++[m])++[l])++[o],U)).bind (cD e)).map eZ;cases Û a with
  |none=>rfl
  |some n=>
   show rd [112,106,113] [b,c,d] _=_;rw[jv 112 _ _ _ _ nofun];cases Û b with
   |none=>rfl
   |some m=>
    show rd [106,113] [c,d] _=_;rw[jv 106 _ _ _ _ nofun];cases Û c with
    |none=>rfl
    |some l=>
     show rd [113] [d] _=_;rw[jv 113 _ _ _ _ nofun];cases Û d with
     |none=>rfl
     |some o=>
      show O _=(cD e ([n,m,l,o],U)).map eZ;rw[h1];show _=O (eZ (F n m l o));rw[h2];rfl
 have g:∀(a b c:Ä)(F:Nat->Nat->Â->Ù)(e:Nat),(∀i p A,cD e ([i,p],O A)=O (F i p A))->(∀i p A,eZ (F i p A)=([bC i],[bC p],O A))->rd [105,112,65] [a,b,c] ([],[],U)=((d3 [false,false,true] [a,b,c] ([],U)).bind (cD e)).map eZ:=by
  intro a b c F e h1 h2;rw[jv 105 _ _ _ _ nofun];show _=(((Û a).bind λn=>(Û b).bind λm=>(ß c).bind λA=>O (([]++[n])++[m],O A)).bind (cD e)).map eZ;cases Û a with
  |none=>rfl
  |some n=>
   show rd [112,65] [b,c] _=_;rw[jv 112 _ _ _ _ nofun];cases Û b with
   |none=>rfl
   |some m=>
    show(ß c).bind _=_;cases ß c with
    |none=>rfl
    |some A=>
     show O _=(cD e ([n,m],O A)).map eZ;rw[h1];show _=O (eZ (F n m A));rw[h2];rfl
 revert fs f;refine aZ ?_;match k,hk with
 |0,_=>exact λa=>by show(ß a).bind _=(((ß a).bind λA=>O ([],O A)).bind _).map eZ;cases ß a<;>rfl
 |1,_=>exact λa b c d=>four a b c d .cut 1 (λ_ _ _ _=>J) λ_ _ _ _=>J
 |2,_=>exact λa b c d=>four a b c d .tensor 2 (λ_ _ _ _=>J) λ_ _ _ _=>J
 |3,_=>exact λa b c=>xb a b c .par 3 (λ_ _ _=>J) λ_ _ _=>J
 |4,_=>exact λa b c d=>four a b c d .wth 4 (λ_ _ _ _=>J) λ_ _ _ _=>J
 |5,_=>exact λa b c=>g a b c .plus1 5 (λ_ _ _=>J) λ_ _ _=>J
 |6,_=>exact λa b c=>g a b c .plus2 6 (λ_ _ _=>J) λ_ _ _=>J
 |7,_=>exact λa b=>two a b .der 7 (λ_ _=>J) λ_ _=>J
 |8,_=>
  intro a b;show rd [105,65] [a,b] _=(((Û a).bind λn=>(ß b).bind λA=>O ([]++[n],O A)).bind _).map eZ;rw[jv 105 _ _ _ _ nofun];cases Û a with
  |none=>rfl
  |some n=>
   show(ß b).bind _=_;cases ß b<;>rfl
 |9,_=>exact λa b c=>xb a b c .con 9 (λ_ _ _=>J) λ_ _ _=>J
 |10,_=>exact λa b=>two a b .prom 10 (λ_ _=>J) λ_ _=>J
 |11,_=>exact λa b c=>xb a b c .ex 11 (λ_ _ _=>J) λ_ _ _=>J
end
section
open Vaneta
theorem Am:∀a:Ä,ĝ a a=false
|[]=>rfl
|x::r=>by unfold ĝ;rw[Am r];simp
theorem ED:∀a b:Ä,ĝ a b=true\/a=b\/ĝ b a=true
|[],[]=>.inr<|.inl J
|[],_::_=>.inl J
|_::_,[]=>.inr<|.inr J
|x::r,y::s=>by
 have c:=ED r s;unfold ĝ;rcases Ëh x.toNat y.toNat with h|h|h
 .left;have:x<y:=Gf.mpr h;simp[this]
 .have e:x=y:=oQ.mp h;subst e;rcases c with h|h|h
  .left;simp[h]
  .right;left;rw[h]
  .right;right;simp[h]
 .right;right;have:y<x:=Gf.mpr h;simp[this]
theorem An:∀{a b c:Ä},ĝ a b=true->ĝ b c=true->ĝ a c=true
|[],[],_,h,_|_,_::_,[],_,h=>by cases h
|[],_::_,_::_,_,_=>rfl
|_::_,[],_,h,_=>by cases h
|x::r,y::s,z::t,h1,h2=>by
 unfold ĝ at h1 h2⊢;simp only[j3,du,aS,jV]at h1 h2⊢;simp only[Gf]at h1 h2⊢;rcases h1 with h1|⟨rfl,h1⟩
 .rcases h2 with h2|⟨rfl,h2⟩
  .left;lia
  .left;exact h1
 .rcases h2 with h2|⟨rfl,h2⟩
  .left;exact h2
  .right;exact⟨J,An h1 h2⟩
abbrev ni(l:List Ô):Prop:=l.Pairwise λa b=>ĝ a b=true
theorem EE(a x:Ô):∀l:List Ô,x∈Ŵ a l↔x=a\/x∈l
|[]=>by simp[Ŵ]
|b::r=>by
 let c:=EE a x r;unfold Ŵ;split
 .rename_i h;subst h;simp
 .split
  .simp
  .rw[a_,c,a_];constructor
   .rintro(h|h|h)
    .exact .inr<|.inl h
    .exact .inl h
    .exact .inr<|.inr h
   .rintro(h|h|h)
    .exact .inr<|.inl h
    .exact .inl h
    .exact .inr<|.inr h
theorem LD(a:Ô):∀{l:List Ô},ni l->ni (Ŵ a l)
|[]=>λ_=>by simp[Ŵ,ni]
|b::r=>λh=>by
 have d:=sE.mp h;unfold Ŵ;split
 .exact h
 .rename_i ne;split
  .rename_i lt;refine sE.mpr ⟨λx c=>?_,h⟩;rcases a_.mp c with rfl|c
   .exact lt
   .exact An lt<|d.1 x c
  .rename_i e;refine sE.mpr ⟨λx c=>?_,LD a d.2⟩;rcases(EE a x r).mp c with rfl|c
   .rcases ED x b with h|h|h
    .exact absurd h e
    .exact absurd h ne
    .exact h
   .exact d.1 x c
theorem EF:∀(L:List (Bool×Ô)){l:List Ô},ni l->ni (L.foldl (λr x=>Ŵ x.2 r) l)/\∀x,x∈L.foldl (λr x=>Ŵ x.2 r) l↔x∈l\/∃b,(b,x)∈L
|[],l,h=>⟨h,λx=>by simp⟩
|y::L,l,h=>by
 obtain⟨h1,h2⟩:=EF L<|LD y.2 h;refine⟨h1,λx=>?_⟩;rw[jf,h2 x,EE];constructor
 .rintro((h|h)|⟨b,h⟩)
  .exact .inr ⟨y.1,by rw[h];simp⟩
  .exact .inl h
  .exact .inr ⟨b,by simp[h]⟩
 .rintro(h|⟨b,h⟩)
  .exact .inl<|.inr h
  .rcases a_.mp h with h|h
   .exact .inl<|.inl (by rw[<-h])
   .exact .inr ⟨b,h⟩
def WT(L):ni (ŋ L):=(EF L Äc).1
def EG(L)(x):x∈ŋ L↔∃b,(b,x)∈L:=by let:=(EF L Äc).2 x;unfold ŋ;rw[this];simp
theorem LF:∀{l m:List Ô},ni l->ni m->(∀x,x∈l↔x∈m)->l=m
|[],[]=>λ_ _ _=>rfl
|[],y::m=>λ_ _ h=>by have:=(h y).mpr Gc;simp at this
|x::l,[]=>λ_ _ h=>by have:=(h x).mp Gc;simp at this
|x::l,y::m=>λd hm h=>by
 have a:=List.pairwise_cons.mp d;have b:=List.pairwise_cons.mp hm;have e:x=y:=by
  rcases List.mem_cons.mp ((h x).mp Gc)with e|e
  .exact e
  .rcases List.mem_cons.mp ((h y).mpr Gc)with f|f
   .exact f.symm
   .have:=An (b.1 x e)<|a.1 y f;rw[Am]at this;cases this
 subst e;congr 1;refine LF a.2 b.2 λz=>?_;constructor
 .intro c;rcases List.mem_cons.mp ((h z).mp (by simp[c]))with e|e
  .subst e;have:=a.1 z c;rw[Am]at this;cases this
  .exact e
 .intro c;rcases List.mem_cons.mp ((h z).mpr (by simp[c]))with e|e
  .subst e;have:=b.1 z c;rw[Am]at this;cases this
  .exact e
def Nb:Ô->List Ô->Prop
|_,[]=>True
|p,x::r=>ĝ x p=false/\Nb x r
theorem LG:∀{p:Ô}{l:List Ô},Nb p l->(p::l).Nodup->ni (p::l)
|p,[]=>λ_ _=>by simp[ni]
|p,x::r=>λh nd=>by
 have b:=si.mp nd;have c:=LG h.2 b.2;have d:ĝ p x=true:=by
  rcases ED p x with e|e|e
  .exact e
  .exact absurd (by rw[e];simp) b.1
  .rw[h.1]at e;cases e
 refine sE.mpr ⟨λy a=>?_,c⟩;rcases a_.mp a with rfl|a
 .exact d
 .exact An d<|(sE.mp c).1 y a
def Ao(L)(n m)(a b):Ğ (L++[(n,a)]) m b=Ğ L m b+(if n=m/\a=b then 1 else 0):=by
 unfold Ğ;by_cases h:n=m/\a=b
 .rw[if_pos h];simp[h.1,h.2]
 .rw[if_neg h];let:(((n==m)&&(a==b))=false):=by
   rw[Bool.and_eq_false_iff];by_cases h1:n=m
   .right;exact beq_eq_false_iff_ne.mpr λz=>h ⟨h1,z⟩
   .left;exact beq_eq_false_iff_ne.mpr h1
  simp[this]
end
section
open PyFlat
def WU(c:List (List Int)):ϐ c=c:=by
 rcases c with _|⟨_|⟨n|n,_|⟨_,_|_⟩⟩,_|⟨_,_|⟨_,_|_⟩⟩⟩<;>try rfl
 all_goals rcases n with _|_|_|_|_|_|_|_|_|_|_|_|_|_|_|_|n<;>rfl
noncomputable def md:List (Nat×Nat):=[(0,1),(0,1),(0,0),(0,0),(1,0),(1,0),(0,0),(1,0),(1,0),(0,1),(1,0),(1,0),(0,2),(0,2),(0,0),(1,0)]
def WV(h:ğ z=O x):∃i:Nat,z=(i:Int)/\md[i]?=O x:=by
 unfold ğ at h;by_cases h0:z=0
 .rw[aj h0]at h;exact⟨0,h0,h⟩
 rw[ai h0]at h;by_cases h1:z=1
 .rw[aj h1]at h;exact⟨1,h1,h⟩
 rw[ai h1]at h;by_cases h2:z=2
 .rw[aj h2]at h;exact⟨2,h2,h⟩
 rw[ai h2]at h;by_cases a:z=3
 .rw[aj a]at h;exact⟨3,a,h⟩
 rw[ai a]at h;by_cases b:z=4
 .rw[aj b]at h;exact⟨4,b,h⟩
 rw[ai b]at h;by_cases c:z=5
 .rw[aj c]at h;exact⟨5,c,h⟩
 rw[ai c]at h;by_cases d:z=6
 .rw[aj d]at h;exact⟨6,d,h⟩
 rw[ai d]at h;by_cases e:z=7
 .rw[aj e]at h;exact⟨7,e,h⟩
 rw[ai e]at h;by_cases f:z=8
 .rw[aj f]at h;exact⟨8,f,h⟩
 rw[ai f]at h;by_cases g:z=9
 .rw[aj g]at h;exact⟨9,g,h⟩
 rw[ai g]at h;by_cases j:z=10
 .rw[aj j]at h;exact⟨10,j,h⟩
 rw[ai j]at h;by_cases k:z=11
 .rw[aj k]at h;exact⟨11,k,h⟩
 rw[ai k]at h;by_cases l:z=12
 .rw[aj l]at h;exact⟨12,l,h⟩
 rw[ai l]at h;by_cases m:z=13
 .rw[aj m]at h;exact⟨13,m,h⟩
 rw[ai m]at h;by_cases n:z=14
 .rw[aj n]at h;exact⟨14,n,h⟩
 rw[ai n]at h;by_cases o:z=15
 .rw[aj o]at h;exact⟨15,o,h⟩
 rw[ai o]at h;exact eG h
theorem LH:∀{i:Nat}{r a s:List Int}{xs:List (List Int)}{x:List Int},Ā i r=O (xs,a)->row a=O (x,s)->Ā (i+1) r=O (xs++[x],s)
|0,r,a,s,xs,x,h,h2=>by
 cases h;unfold Ā;rw[h2];rfl
|i+1,r,a,s,xs,x,h,h2=>by
 unfold Ā at h;cases e:row r with
 |none=>rw[e]at h;cases h
 |some y=>
  obtain⟨y,t⟩:=y;rw[e]at h;simp only at h;cases e2:Ā i t with
  |none=>rw[e2]at h;cases h
  |some q=>
   rw[e2]at h;cases h;let:=LH (i:=i) e2 h2;unfold Ā;rw[e];simp only;rw[this];rfl
theorem LI:∀{k i:Nat}{r a t:List Int}{xs ys:List (List Int)},Ā k r=O (ys,t)->i<k->Ā i r=O (xs,a)->c2 λx s=>row a=O (x,s)
|0,i,r,a,t,xs,ys,_,hi,_=>by lia
|k+1,0,r,a,t,xs,ys,h,_,h2=>by
 cases h2;unfold Ā at h;cases e:row r with
 |none=>rw[e]at h;cases h
 |some y=>exact⟨y.1,y.2,J⟩
|k+1,i+1,r,a,t,xs,ys,h,hi,h2=>by
 unfold Ā at h h2;cases e:row r with
 |none=>rw[e]at h;cases h
 |some y=>
  obtain⟨y,u⟩:=y;rw[e]at h h2;simp only at h h2;cases b:Ā k u with
  |none=>rw[b]at h;exact eG h
  |some q=>
   cases e2:Ā i u with
   |none=>rw[e2]at h2;cases h2
   |some c=>
    rw[e2]at h2;cases h2;exact LI (k:=k) (i:=i) (t:=q.2) (ys:=q.1) b Z e2
theorem EH:∀{k:Nat}{r t:List Int}{xs:List (List Int)},Ā k r=O (xs,t)->xs.length=k
|0,r,t,xs,h=>by cases h;rfl
|k+1,r,t,xs,h=>by
 unfold Ā at h;cases e:row r with
 |none=>rw[e]at h;exact eG h
 |some y=>
  obtain⟨y,u⟩:=y;rw[e]at h;simp only at h;cases a:Ā k u with
  |none=>rw[a]at h;cases h
  |some q=>
   rw[a]at h;cases h;rw[aJ,EH a]
def WW{ns:List Int}{p:Nat}{x s:List Int}(h:row (ns.drop p)=O (x,s)):∃m:Nat,ns[p]?=O (m:Int)/\p+1+m<=ns.length/\x=(ns.drop (p+1)).take m/\s=ns.drop (p+1+m):=by
 cases e:ns.drop p with
 |nil=>rw[e]at h;cases h
 |cons z r=>
  rw[e]at h;unfold row at h;simp only at h;have a:ns[p]?=O z:=by have:=cw ω e;simpa using this
  have c:r=ns.drop (p+1):=by have:=cw List.tail e;rw[Ëi]at this;exact this.symm
  split at h
  .rename_i b
   cases h;subst c;refine⟨z.toNat,by rw[a,Int.toNat_of_nonneg b.1],?_,J,by rw[so]⟩;have h2:=b.2;rw[ib]at h2;have:=(b9.mp a).1;omega
  .cases h
def WX{ns:List Int}{p:Nat}{c:List (List Int)}{t:List Int}(h:call ğ (ns.drop p)=O (c,t)):c4 λ(i n k:Nat)(xs:List (List Int))=>ns[p]?=O (i:Int)/\md[i]?=O (n,k)/\p+1+n<=ns.length/\Ā k (ns.drop (p+1+n))=O (xs,t)/\c=((i:Int)::(ns.drop (p+1)).take n)::xs:=by
 cases e:ns.drop p with
 |nil=>rw[e]at h;cases h
 |cons z r=>
  rw[e]at h;unfold call at h;simp only at h;have a:ns[p]?=O z:=by have:=cw ω e;simpa using this
  have b:r=ns.drop (p+1):=by have:=cw List.tail e;rw[Ëi]at this;exact this.symm
  cases es:ğ z with
  |none=>rw[es]at h;cases h
  |some q=>
   obtain⟨n,k⟩:=q;rw[es]at h;simp only at h;obtain⟨i,rfl,hi⟩:=WV es;split at h
   .cases h
   .rename_i d
    cases e2:Ā k (r.drop n)with
    |none=>rw[e2]at h;cases h
    |some q=>
     obtain⟨xs,t'⟩:=q;rw[e2]at h;cases h;subst b;rw[so]at e2;refine⟨i,n,k,xs,a,hi,?_,e2,J⟩;rw[ib]at d;have:=(b9.mp a).1;omega
def WY{l:List Int}{b:List (List (List Int))}(d:l≠[])(h:calls ğ f l=O b):c4 λg c t a=>call ğ l=O (c,t)/\calls ğ g t=O a/\b=c::a:=by
 cases l with
 |nil=>exact absurd J d
 |cons p r=>
  cases f with
  |zero=>exact eG h
  |succ f=>
   unfold calls at h;cases e:call ğ (p::r)with
   |none=>rw[e]at h;exact eG h
   |some q=>
    obtain⟨c,t⟩:=q;rw[e]at h;simp only at h;cases e2:calls ğ f t with
    |none=>rw[e2]at h;exact eG h
    |some a=>
     rw[e2]at h;cases h;exact⟨f,c,t,a,J,e2,J⟩
def WZ(h:calls ğ f []=O a):a=[]:=by cases f<;>(cases h;rfl)
def gK(x:List Int):Vaneta.Text:=x.map λb=>ŀ b.toNat
def EI(h:Į x=true):ŵ x=O (gK x):=by unfold ŵ;rw[aj h];rfl
def W0(h:Į x=true):(gK x).map (λb=>(b.toNat:Int))=x:=by
 unfold gK;rw[cV];conv=>rhs;rw[<-vk x]
 refine oM λb a=>?_;let:=dQ.mp h b a;simp[du]at this;show((ŀ b.toNat).toNat)=b;rw[UInt8.toNat_ofNat'];lia
def LJ(h:x.all (PyInside.within 0 255)=true):Į x=true:=h
end
namespace Cp
open PySem PySem.Spec PyProof.Rows L2
open Vaneta (Formula Text Name form dual atoms nodes deep two isTwo signOf paren chain isName leaves inBounds isSmall isWord isSign Token formulaOf Sequent cutAt after given sequentForm allOf seqLeaves countOf namesOf before fill)
open Vanetb (wAx wCut wTensor wPar wWith wPlus1 wPlus2 wDer wWeak wCon wProm wEx Rule premises numberOf isDigit decimal digitsFrom spaced theFormula Line Proof sequentAt isUsed unlike lineText proofText readRule lineRead extended makes readFrom readProof openLines under underFrom ruleAt heightOf kindOf partOf appended spreadSize sizeSpread theSequent changed ruleBy allInBounds Call does step onLine told held toldText toldList State)
open VanetbNeutral (encode)
variable {a CR CL CP CF CT D wl dx sl ln ss f pl ql gv ll C pr m0 m1 m2 m3 m4 m5 fl Α dn gb tp:À} {b i p m n k d:Nat} {H H' H1 H2:Hp} {A X Y G B:Â} {l ps:List Nat} {w:è} {v fv:V} {P:ò} {K:Ñ} {mg:Ã→Option Á} {base h:á} {x kd:Ã} {xs:List V} {o:HO} {z:L2.St} {r:Ù} {t:Ä} {c:Call} {fs:List (Ã×V)} {st:Đ} {Sq S0:È} {fo:Option Â} {Ss:List È} {Q:VK} {ag:List (aL×V)} {as:List À} {Pf:Ê} {L:List (Bool×Ô)} {sq:Nat→È} {Qd:Hp→Prop} {te:TE} {zs:List Int} {od an:Option À} {oc kV doc pm cC ct:Á} {kU:Array (Option Á)}
def S(t:Ä):Str:=⟨(t.map å).toArray⟩
def bK(t:Ä):(S t).length=t.length:=by show((t.map å).toArray).size=_;simp
def iw(a b:Ä):S a++S b=S (a++b):=by show(⟨(a.map å).toArray++(b.map å).toArray⟩:Ã)=⟨((a++b).map å).toArray⟩;simp
theorem toNat_inj:∀{a b:Ä},a.map å=b.map å->a=b
|[],[],_=>rfl
|[],_::_,h|_::_,[],h=>by simp at h
|x::a,y::b,h=>by simp only[bz,List.cons.injEq]at h;rw[oQ.mp h.1,toNat_inj h.2]
def gF{a b:Ä}(h:S a=S b):a=b:=by let h:(a.map å).toArray=(b.map å).toArray:=cw Str.cps h;exact toNat_inj (by simpa using h)
def aH(i:Nat):Stmt:=Óa.main.body.getD i<|.Pass ⟨0,0,0,0⟩
def wV(l:List Ä):List V:=l.map λw=>V.str<|S w
def bF(H:Hp)(A:Â)(a:À):Prop:=H a=O (.be<|wV<|wd A)/\aE A=true
def Fz:HO->Prop
|.be _=>True
|_=>False
def fg(H H':Hp):Prop:=∀b o,H b=O o->Fz o->H' b=O o
def aa.aT(s:aa H H'):fg H H':=λb o e _=>s b o e
def fg.trans(a:fg H H1)(b:fg H1 H2):fg H H2:=λc o e z=>b c o (a c o e z) z
def bF.aT(s:fg H H')(h:bF H A a):bF H' A a:=⟨s _ _ h.1 dO,h.2⟩
def bF.same(s:aa H H')(h:bF H A a):bF H' A a:=⟨s _ _ h.1,h.2⟩
def dI(l:List Ä):(wV l).length=l.length:=aK _
def EJ{l:List Ä}{w:Ä}(h:l[i]?=O w):(wV l)[i]?=O (V.str (S w)):=by unfold wV;rw[aR,h];rfl
def jP{l:List Ä}(h:(wV l)[i]?=O v):∃w,l[i]?=O w/\v=V.str (S w):=by
 unfold wV at h;rw[aR]at h;cases e:l[i]? with
 |none=>rw[e]at h;exact eG h
 |some w=>rw[e]at h;exact⟨w,J,(cZ h).symm⟩
def fR(x y:Ä):decide (V.str (S x)=V.str (S y))=decide (x=y):=iC.mpr ⟨λz=>gF (by injection z),λz=>by subst z;rfl⟩
def mG(t:Ä):d8 (.str (S t)) [.str (S [33]),.str (S [63])]=gY t:=by
 show(jg (V.str<|S [33]) (V.str<|S t)||(jg (V.str<|S [63]) (V.str<|S t)||false))=_;let e:∀y,jg (V.str<|S y) (V.str<|S t)=decide (t=y):=λy=>by exact iC.mpr ⟨λz=>(gF z).symm,λz=>by rw[z]⟩
 rw[e,e,xB];rfl
def on(t:Ä):d8 (.str (S t)) [.str (S [42]),.str (S [124]),.str (S [38]),.str (S [43])]=bW t:=by
 show(jg (V.str<|S [42]) (V.str<|S t)||(jg (V.str<|S [124]) (V.str<|S t)||(jg (V.str<|S [38]) (V.str<|S t)||(jg (V.str<|S [43]) (V.str<|S t)||false))))=_;let e:∀y,jg (V.str<|S y) (V.str<|S t)=decide (t=y):=λy=>by exact iC.mpr ⟨λz=>(gF z).symm,λz=>by rw[z]⟩
 rw[e,e,e,e,xB];rfl
def afT:rh ["calls","proof","tape","given_back"] ["calls"] (gP (aH 158)):=yB
def lower:Text:=(ø 26).map λi=>ŀ (97+i)
def uL:Text:=(ø 10).map λi=>ŀ (48+i)
def EK:Text:=[126,42,124,38,43,33,63,40,41]
noncomputable def EL:Text:=[126,42,124,38,43,33,63,40,41,45,44,32,10]
noncomputable def xc:List (aL×V):=[(.inr<|S ň,.str<|S [65]),(.inr<|S ķ,.str<|S [105,112,106,113]),(.inr<|S Ů,.str<|S [105,112,106,113]),(.inr<|S ů,.str<|S [105,112,113]),(.inr<|S ĸ,.str<|S [105,112,106,113]),(.inr<|S Ĺ,.str<|S [105,112,65]),(.inr<|S Ξ,.str<|S [105,112,65]),(.inr<|S Ű,.str<|S [105,112]),(.inr<|S Φ,.str<|S [105,65]),(.inr<|S ĺ,.str<|S [105,112,113]),(.inr<|S Ļ,.str<|S [105,112]),(.inr<|S wEx,.str<|S [105,112,113])]
noncomputable def Ap:List (Ã×Int×Int):=[("call_proof",0,1),("call_line",0,1),("call_drop",0,0),("call_text",0,0),("call_sequent",1,0),("call_rule",1,0),("call_unused",0,0),("call_under",1,0),("call_facts",1,0),("call_find",0,1),("call_part",1,0),("call_keep",1,0),("call_rename",0,2),("call_fill",0,2),("call_spread",0,0),("call_balance",1,0)]
structure Txa(P:ò)(w:è)(K:Ñ)(mg:Ã->Option Á)(CR CL CP CF CT:À):Prop where
 cS:mg "len"=U
 LK:mg "max"=U
 LL:mg "tuple"=U
 LM:mg "reversed"=U
 xf:bV mg "TURNED" (.str (S [126]))
 rK:∃a,bV mg "SIGNS_OF_TWO" (.ref a)/\∀H,aV K H a [.str (S [42]),.str (S [124]),.str (S [38]),.str (S [43])]
 uM:∃a,bV mg "SIGNS_OF_ONE" (.ref a)/\∀H,aV K H a [.str (S [33]),.str (S [63])]
 LN:∃a,bV mg "DUAL_SIGNS" (.ref a)/\DK P w K a [(.inr (S [42]),.str (S [124])),(.inr (S [124]),.str (S [42])),(.inr (S [38]),.str (S [43])),(.inr (S [43]),.str (S [38])),(.inr (S [33]),.str (S [63])),(.inr (S [63]),.str (S [33]))]
 W1:bV mg "MOST_ATOMS" (.int 60)
 W2:bV mg "MOST_NODES" (.int 200)
 W3:bV mg "MOST_DEPTH" (.int 40)
 W4:DF K mg "plain_atom" (aH 14)
 W5:DF K mg "of_one" (aH 15)
 W6:DF K mg "of_two" (aH 16)
 W7:DF K mg "parts_of" (aH 17)
 W8:DF K mg "end_of_formula" (aH 18)
 W9:DF K mg "dual_of" (aH 19)
 W_:DF K mg "dual_word" (aH 20)
 W':DF K mg "is_turned" (aH 21)
 Xa:DF K mg "name_of" (aH 22)
 Xb:DF K mg "atoms_of" (aH 23)
 Xc:DF K mg "form_of" (aH 24)
 Xd:DF K mg "bracketed" (aH 25)
 Xe:DF K mg "depth_of" (aH 26)
 Xf:DF K mg "is_in_bounds" (aH 27)
 Aq:mg "all"=U
 LO:mg "ord"=U
 Xg:bV mg "LONGEST_NAME" (.int 12)
 Ar:bV mg "SMALL_LETTERS" (.str (S lower))
 EM:bV mg "DIGITS" (.str (S uL))
 Xh:bV mg "SINGLE_TOKENS" (.str (S EK))
 Au:bV mg "ARROW" (.str (S [45,111]))
 LP:bV mg "BLANK" (.str (S [32]))
 Xi:DF K mg "is_name" (aH 38)
 Xj:DF K mg "stretch_at" (aH 51)
 Xk:DF K mg "token_at" (aH 50)
 Xl:DF K mg "tokens_of" (aH 49)
 Xm:DF K mg "numbers_of" (aH 37)
 b7:g9 K CR
 nR:∀f∈(["waiting","formula"]:List Ã),ip K CR f
 Xn:DI K mg CR "Reader" "Reader.__init__" (cK (aH 52) 0)
 Xo:DM K CR "take" "Reader.take" (cK (aH 52) 1)
 Xp:DM K CR "begin_part" "Reader.begin_part" (cK (aH 52) 2)
 Xq:DM K CR "follow_part" "Reader.follow_part" (cK (aH 52) 3)
 Xr:DM K CR "lengthen_chain" "Reader.lengthen_chain" (cK (aH 52) 4)
 Xs:DM K CR "wait" "Reader.wait" (cK (aH 52) 5)
 Xt:DM K CR "last_waiting" "Reader.last_waiting" (cK (aH 52) 6)
 Xu:DM K CR "end_part" "Reader.end_part" (cK (aH 52) 7)
 Xv:DM K CR "end_chain" "Reader.end_chain" (cK (aH 52) 8)
 Xw:DM K CR "end_formula" "Reader.end_formula" (cK (aH 52) 9)
 Xx:DM K CR "end_bracket" "Reader.end_bracket" (cK (aH 52) 10)
 Xy:DM K CR "whole" "Reader.whole" (cK (aH 52) 11)
 Xz:bV mg "MOST_WAITING" (.int 100)
structure Txb(P:ò)(w:è)(K:Ñ)(mg:Ã->Option Á)(CR CL CP CF CT:À):Prop where
 LQ:bV mg "PAR" (.str (S [124]))
 XA:bV mg "MOST_BYTES" (.int 2000)
 XB:DF K mg "read_formula" (aH 48)
 XC:DF K mg "read_bounded" (aH 47)
 bb:g9 K CL
 nL:∀f∈(["kind","premises","places","formula","sequent"]:List Ã),ip K CL f
 EN:mg "enumerate"=U
 XD:DF K mg "without" (aH 54)
 XE:DF K mg "rest_of_first" (aH 55)
 XF:DF K mg "rest_of_second" (aH 56)
 XG:DF K mg "rest_of_both_places" (aH 57)
 XH:DF K mg "chosen" (aH 58)
 XI:DF K mg "chosen_beside" (aH 59)
 XJ:DF K mg "joined" (aH 60)
 XM:bV mg "TENSOR" (.str (S [42]))
 XN:bV mg "WITH" (.str (S [38]))
 LR:bV mg "PLUS" (.str (S [43]))
 XO:bV mg "OF_COURSE" (.str (S [33]))
 Aw:bV mg "WHY_NOT" (.str (S [63]))
 XQ:DF K mg "make_axiom" (aH 61)
 XR:DF K mg "make_cut" (aH 62)
 XS:DF K mg "make_tensor" (aH 63)
 XT:DF K mg "make_par" (aH 64)
 XU:DF K mg "make_with" (aH 65)
 XV:DF K mg "make_plus_first" (aH 66)
 XW:DF K mg "make_plus_second" (aH 67)
 XX:DF K mg "make_derelict" (aH 68)
 XY:DF K mg "make_weaken" (aH 69)
 XZ:DF K mg "make_contract" (aH 70)
 X0:DF K mg "make_promote" (aH 71)
 LS:mg "list"=U
 X1:DF K mg "make_exchange" (aH 72)
 X2:DF K mg "cut_fits" (aH 73)
 X3:DF K mg "contract_fits" (aH 75)
 X4:DF K mg "promote_fits" (aH 76)
 X5:DF K mg "with_fits" (aH 74)
 X6:DF K mg "rule_fits" (aH 79)
 X7:DF K mg "made_sequent" (aH 80)
 X8:∃a m0 m1 m2 m3 m4 m5 m6 m7 m8 m9 yF yG,bV mg "MAKERS" (.ref a)/\DK P w K a [(.inr (S ň),.ref m0),(.inr (S ķ),.ref m1),(.inr (S Ů),.ref m2),(.inr (S ů),.ref m3),(.inr (S ĸ),.ref m4),(.inr (S Ĺ),.ref m5),(.inr (S Ξ),.ref m6),(.inr (S Ű),.ref m7),(.inr (S Φ),.ref m8),(.inr (S ĺ),.ref m9),(.inr (S Ļ),.ref yF),(.inr (S wEx),.ref yG)]/\mg "make_axiom"=O (.ref m0)/\mg "make_cut"=O (.ref m1)/\mg "make_tensor"=O (.ref m2)/\mg "make_par"=O (.ref m3)/\mg "make_with"=O (.ref m4)/\mg "make_plus_first"=O (.ref m5)/\mg "make_plus_second"=O (.ref m6)/\mg "make_derelict"=O (.ref m7)/\mg "make_weaken"=O (.ref m8)/\mg "make_contract"=O (.ref m9)/\mg "make_promote"=O (.ref yF)/\mg "make_exchange"=O (.ref yG)
 X9:c0 λa m0 m1 m2 m3=>bV mg "CHECKS" (.ref a)/\DK P w K a [(.inr (S ķ),.ref m0),(.inr (S ĸ),.ref m1),(.inr (S ĺ),.ref m2),(.inr (S Ļ),.ref m3)]/\mg "cut_fits"=O (.ref m0)/\mg "with_fits"=O (.ref m1)/\mg "contract_fits"=O (.ref m2)/\mg "promote_fits"=O (.ref m3)
 X_:mg "int"=U
 Ya:bV mg "LONGEST_DECIMAL" (.int 9)
 Yb:bV mg "PAST_ALL" (.int 1000000000)
 Yc:DF K mg "is_decimal" (aH 39)
 Yd:DF K mg "decimal_value" (aH 40)
 Ye:bV mg "OTHER_SIGNS" (.str (S EL))
 Yf:bV mg "UNREAD_SIGN" (.str (S [35]))
 Yg:DF K mg "text_of" (aH 36)
 Yh:DI K mg CL "Line" "Line.__init__" (cK (aH 99) 0)
 Yi:DM K CL "take_field" "Line.take_field" (cK (aH 99) 1)
 LU:mg "str"=U
 Yj:DM K CL "field" "Line.field" (cK (aH 99) 2)
 xg:mg "any"=U
structure Txc(P:ò)(w:è)(K:Ñ)(mg:Ã->Option Á)(CR CL CP CF CT:À):Prop where
 LV:bV mg "MOST_FORMULAS" (.int 20)
 oo:bV mg "NO_FAULT" (.int 0)
 Yk:bV mg "NO_PREMISE" (.int 2)
 LW:bV mg "USED_PREMISE" (.int 3)
 Yl:bV mg "NO_PLACE" (.int 4)
 Ym:bV mg "NO_FIT" (.int 5)
 Yn:DF K mg "is_sequent" (aH 83)
 Yo:DF K mg "places_stand" (aH 105)
 Yp:DF K mg "rule_fault" (aH 104)
 Yq:DF K mg "used_lines" (aH 103)
 Yr:DF K mg "premise_fault" (aH 102)
 LX:∃a,bV mg "FIELDS" (.ref a)/\DK P w K a xc
 Ys:DM K CL "written" "Line.written" (cK (aH 99) 3)
 Yt:DF K mg "written_lines" (aH 107)
 Yu:mg "zip"=U
 Yv:DF K mg "read_line" (aH 100)
 Yw:bV mg "NO_LINE" (.int 1)
 Yx:bV mg "NO_ROOM_IN_SEQUENT" (.int 6)
 Yy:bV mg "NO_ROOM_IN_PROOF" (.int 7)
 LY:bV mg "MOST_LINES" (.int 200)
 Yz:DF K mg "add_line" (aH 101)
 YA:DF K mg "renumbered" (aH 106)
 cg:g9 K CP
 eQ:ip K CP "lines"
 YB:DI K mg CP "Proof" "Proof.__init__" (cK (aH 130) 0)
 YC:DM K CP "has_line" "Proof.has_line" (cK (aH 130) 1)
 YD:DM K CP "grow" "Proof.grow" (cK (aH 130) 3)
 YE:DM K CP "shrink" "Proof.shrink" (cK (aH 130) 4)
 YF:DM K CP "change" "Proof.change" (cK (aH 130) 14)
 YG:DF K mg "line_texts" (aH 131)
 YH:DM K CP "become" "Proof.become" (cK (aH 130) 2)
 Ax:mg "range"=U
 LZ:mg "sorted"=U
 YI:DM K CP "unused" "Proof.unused" (cK (aH 130) 5)
 YJ:DM K CP "under" "Proof.under" (cK (aH 130) 6)
 L0:∃a,bV mg "KINDS" (.ref a)/\∀H,aV K H a (wV adZ)
 YK:DM K CP "height" "Proof.height" (cK (aH 130) 7)
 YL:DM K CP "kind_counts" "Proof.kind_counts" (cK (aH 130) 8)
 YM:DM K CP "lines_with" "Proof.lines_with" (cK (aH 130) 9)
 YN:DM K CP "part" "Proof.part" (cK (aH 130) 10)
 YO:DM K CP "keep" "Proof.keep" (cK (aH 130) 11)
 YQ:DF K mg "sequent_form" (aH 84)
 YR:mg "sum"=U
 YS:c2 λ(a:À)(o:Ó)=>mg "KINDS"=O (.ref a)/\K.lookup a=O o/\o.cls=.type "tuple"/\o.dict=U
 EO:bV mg "NOT_READ" (.int (-1))
 YT:bV mg "NO_SUCH_LINE" (.int (-2))
 YU:bV mg "NOT_IN_BOUNDS" (.int (-6))
 YV:bV mg "TOO_MANY_LINES" (.int (-7))
 YW:bV mg "NOTHING_TO_DROP" (.int (-8))
 kG:g9 K CF
 GP:ip K CF "words"
 yH:ip K CF "done"
 YX:DI K mg CF "Filling" "Filling.__init__" (cK (aH 109) 0)
structure Txd(P:ò)(w:è)(K:Ñ)(mg:Ã->Option Á)(CR CL CP CF CT:À):Prop where
 iy:g9 K CT
 B6:ip K CT "numbers"
 tE:ip K CT "place"
 YY:DI K mg CT "Tape" "Tape.__init__" (cK (aH 156) 0)
 YZ:∃a,bV mg "LINES_OF_SIGN" (.ref a)/\DK P w K a [(.inr (S [42]),.int 2),(.inr (S [124]),.int 3),(.inr (S [38]),.int 4),(.inr (S [43]),.int 3),(.inr (S [33]),.int 3),(.inr (S [63]),.int 2)]
 Y0:c1 λa m0 m1 m2 m3 m4 m5=>bV mg "SPREADERS" (.ref a)/\DK P w K a [(.inr (S [42]),.ref m0),(.inr (S [124]),.ref m1),(.inr (S [38]),.ref m2),(.inr (S [43]),.ref m3),(.inr (S [33]),.ref m4),(.inr (S [63]),.ref m5)]/\
  mg "put_tensor"=O (.ref m0)/\mg "put_par"=O (.ref m1)/\mg "put_with"=O (.ref m2)/\mg "put_plus"=O (.ref m3)/\mg "put_of_course"=O (.ref m4)/\mg "put_why_not"=O (.ref m5)
 Y1:c2 λ(a:À)(ts:List À)=>bV mg "CALLS" (.ref a)/\(∀H,aV K H a (ts.map V.ref))/\ts.length=16/\∀(i:Nat)(x:Ã)(n k:Int),Ap[i]?=O (x,n,k)->c2 λt f=>ts[i]?=O t/\(∀H,aV K H t [.ref f,.int n,.int k])/\mg x=O (.ref f)
 Y2:DF K mg "read_sequent" (aH 85)
 Y3:DF K mg "balance_of" (aH 86)
 Y4:DF K mg "filled_lines" (aH 110)
 Y5:DF K mg "put" (aH 113)
 Y6:DF K mg "put_tensor" (aH 114)
 Y7:DF K mg "put_par" (aH 115)
 Y8:DF K mg "put_joined" (aH 116)
 Y9:DF K mg "put_with" (aH 117)
 Y_:DF K mg "put_plus" (aH 118)
 Za:DF K mg "put_choice" (aH 119)
 Zb:DF K mg "put_of_course" (aH 120)
 Zc:DF K mg "put_why_not" (aH 121)
 Zd:DF K mg "put_promoted" (aH 122)
 Ze:DF K mg "put_exchange" (aH 123)
 L1:DF K mg "put_spread" (aH 125)
 Zf:DF K mg "spread_size" (aH 126)
 Zg:DF K mg "have_room" (aH 127)
 Zh:DF K mg "spread_lines" (aH 128)
 Zi:DF K mg "counted" (aH 138)
 Zj:DF K mg "call_proof" (aH 139)
 Zk:DF K mg "call_line" (aH 140)
 Zl:DF K mg "call_drop" (aH 141)
 Zm:DF K mg "call_text" (aH 142)
 Zn:DF K mg "call_sequent" (aH 143)
 Zo:DF K mg "call_rule" (aH 144)
 Zp:DF K mg "call_unused" (aH 145)
 Zq:DF K mg "call_under" (aH 146)
 Zr:DF K mg "call_facts" (aH 147)
 Zs:DF K mg "call_find" (aH 148)
 Zt:DF K mg "call_part" (aH 149)
 Zu:DF K mg "call_keep" (aH 150)
 Zv:DF K mg "call_rename" (aH 151)
 Zw:DF K mg "call_fill" (aH 152)
 Zx:DF K mg "call_spread" (aH 153)
 Zy:DF K mg "call_balance" (aH 154)
 Zz:DF K mg "answer_of" (aH 157)
 ZA:DF K mg "answers" (aH 158)
 ZB:DM K CF "filled" "Filling.filled" (cK (aH 109) 1)
 ZC:DM K CF "newly_filled" "Filling.newly_filled" (cK (aH 109) 2)
 ZD:DM K CF "filled_line" "Filling.filled_line" (cK (aH 109) 3)
 ZE:DM K CP "fill" "Proof.fill" (cK (aH 130) 12)
 ZF:DM K CP "spread" "Proof.spread" (cK (aH 130) 13)
 ZG:DM K CT "is_over" "Tape.is_over" (cK (aH 156) 1)
 ZH:DM K CT "take_number" "Tape.take_number" (cK (aH 156) 2)
 ZI:DM K CT "take_row" "Tape.take_row" (cK (aH 156) 3)
structure Tx(P:ò)(w:è)(K:Ñ)(mg:Ã->Option Á)(CR CL CP CF CT:À):Prop extends Txa P w K mg CR CL CP CF CT,Txb P w K mg CR CL CP CF CT,Txc P w K mg CR CL CP CF CT,Txd P w K mg CR CL CP CF CT
variable (T:Tx P w K mg CR CL CP CF CT)
def EQ(A:Â):wV (wd A)≠[]:=by
 obtain⟨r,e⟩:=Ab A;rw[e];intro z;cases z
def Ay(A:Â):(wV (wd A)).length=Å A:=by rw[dI,ee]
inductive L3(vs:List V)(H:Hp)(Q:VK)(_:XK):Prop|m(x:_)(_:vs=[.str<|S x])(_:Õ x=true)(_:∀H' a,aa H H'->H a=U->bF H' (.atom false x) a->Q (.ref a) H')
def ER:Ok P w K mg base 1 "plain_atom" ["name"] L3:=bh ["name"] T.W4 λH vs Q nd c h=>by obtain⟨x,rfl,b,k⟩:=h;refine⟨_,yr<|pL<|y1<|pv 0,?_⟩;exact⟨Ge,λa na=>k _ a (aa.ab na) na ⟨aq,b⟩⟩
inductive ZJ(vs:List V)(H:Hp)(Q:VK)(_:XK):Prop|m(c A fa:_)(_:vs=[.str<|S [c],.ref fa])(_:(c=33\/c=63))(_:bF H A fa)(_:Å A<=100000)(_:∀H' a,aa H H'->H a=U->bF H' (aeO [c] A) a->Q (.ref a) H')
def Az:Ok P w K mg base 1 "of_one" ["sign","formula"] ZJ:=bh ["sign","formula"] T.W5 λH vs Q nd g h=>by
 obtain⟨c,A,f,rfl,b,d,i,k⟩:=h;refine⟨_,yr<|cJ C6 (pL<|y1<|pv 0)<|pv 1,?_⟩;refine⟨Ge,λt a=>⟨t,f,_,_,J,J,aV.of aq,aV.of<|aa.ab a _ _ d.1,Gc,?_,λz=>absurd z<|EQ A,λ_ p e=>?_⟩⟩
 .rw[Ay,bn];simp only[dP];lia
 .refine k _ p ((aa.ab a).trans<|aa.ab e) ((aa.ab a).free e) ⟨?_,?_⟩
  .rw[aq];rcases b with rfl|rfl<;>rfl
  .rcases b with rfl|rfl<;>exact d.2
inductive ZK(vs:List V)(H:Hp)(Q:VK)(_:XK):Prop|m(c A B fa fb:_)(_:vs=[.str<|S [c],.ref fa,.ref fb])(_:ô c=true)(_:bF H A fa)(_:bF H B fb)(_:Å A<=100000)(_:Å B<=100000)(_:∀H' a,aa H H'->H a=U->bF H' (two c A B) a->Q (.ref a) H')
def xh:Ok P w K mg base 1 "of_two" ["sign","first","second"] ZK:=bh ["sign","first","second"] T.W6 λH vs Q nd m h=>by
 obtain⟨c,A,B,i,j,rfl,l,b,d,n,r,k⟩:=h;refine⟨_,yr<|cJ C6 (cJ C6 (pL<|y1<|pv 0)<|pv 1)<|pv 2,?_⟩;refine⟨Ge,λt a=>⟨t,i,_,_,J,J,aV.of aq,aV.of<|aa.ab a _ _ b.1,Gc,?_,λz=>absurd z<|EQ A,λ_ p e=>?_⟩⟩
 .rw[Ay,bn];simp only[dP];lia
 .refine⟨p,j,_,_,J,J,aV.of aq,aV.of<|aa.ab e _ _<|aa.ab a _ _ d.1,Gc,?_,λz=>absurd z<|EQ B,λ_ q f=>?_⟩
  .rw[bw,Ay,Ay,bn];simp only[dP];lia
  .let g:aa H _:=(aa.ab a).trans (aa.ab (o:=.be<|[.str<|S [c]]++wV (wd A)) e);refine k _ q (g.trans<|aa.ab f) (g.free f) ⟨?_,by rw[zW,b.2,d.2];rfl⟩;rw[aq,Wk l];unfold wV;rw[bz,bU];rfl
inductive ZL(vs:List V)(H:Hp)(Q:VK)(_:XK):Prop|m(x:_)(_:vs=[.str<|S x])(_:1<=x.length)(_:x.length<=1000)(_:Q (.bl<|decide<|x.head? =O 126) H)
def ES:Ok P w K mg base 1 "is_turned" ["atom"] ZL:=bh ["atom"] T.W' λH vs Q nd a h=>by
 obtain⟨x,rfl,h1,h2,k⟩:=h;refine⟨_,yr<|yp e_ (yi (pv 0) aG)<|bj T.xf,?_⟩;match x,h1 with
 |b::r,h1=>
  refine⟨S (b::r),0,b.toNat,J,J,by rw[bK,bn];lia,cb (by show((b::r).map å).toArray.toList[0]?=_;simp),J,?_⟩;let e:decide (V.str (⟨#[b.toNat]⟩)=V.str (S [126]))=decide ((b::r).head? =O 126):=by rw[show(⟨#[b.toNat]⟩)=S [b]from J,fR];simp
  exact e▸k
def xi(x:Ä):Text:=if x.head? =O 126 then x.tail else x
inductive ZM(vs:List V)(H:Hp)(Q:VK)(_:XK):Prop|m(x:_)(_:vs=[.str<|S x])(_:1<=x.length)(_:x.length<=1000)(_:Q (.str<|S<|xi x) H)
def ZN(b)(r:Ä):pZ (S (b::r)) (O 1) U=S r:=by
 unfold pZ;let a:(S (b::r)).length=r.length+1:=by rw[bK];rfl
 let h1:HT.bi (S (b::r)).length 0 (O 1)=1:=by rw[a];unfold HT.bi;simp
 let h2:HT.bi (S (b::r)).length (S (b::r)).length U=r.length+1:=by rw[a];rfl
 rw[h1,h2];show(⟨((((b::r).map å).toArray.toList.drop 1).take<|r.length+1-1).toArray⟩:Ã)=⟨(r.map å).toArray⟩;congr 2;simp only[List.map_cons,List.toList_toArray,List.drop_succ_cons,List.drop_zero,Nat.add_sub_cancel];exact List.take_of_length_le Gc
def L4:Ok P w K mg base 2 "name_of" ["atom"] ZM:=bh ["atom"] T.Xa λH vs Q nd a h=>by
 obtain⟨x,rfl,h1,h2,k⟩:=h;refine⟨_,yr<|j_ (d_<|yc (ES T) a<|y1<|pv 0) (oh J0 (pv 0) (km aG) uf)<|pv 0,?_⟩;refine⟨x,J,h1,h2,?_⟩;unfold xi at k;refine dq (λh=>?_) λh=>?_
 .let h:=dR h;rw[aj h]at k;match x,h with
  |b::r,h=>refine⟨_,J,S (b::r),J,by rw[bK,bn];lia,?_⟩;rw[ZN];exact k
 .rw[ai λz=>h<|bP z]at k;exact k
def ET(x:Ä):(bT [((.inr (S [42]):aL),V.str (S [124])),(.inr (S [124]),.str (S [42])),(.inr (S [38]),.str (S [43])),(.inr (S [43]),.str (S [38])),(.inr (S [33]),.str (S [63])),(.inr (S [63]),.str (S [33]))] (.inr (S x)))=if da x=true then O (V.str (S [Py (sg x)]))else none:=by
 have ne:∀y,¬x=y->¬((.inr (S y):aL)=.inr (S x)):=λy h z=>h (by injection z with z;exact(gF z).symm);by_cases h1:x=[42]
 .subst h1;rfl
 by_cases h2:x=[124]
 .subst h2;rfl
 by_cases a:x=[38]
 .subst a;rfl
 by_cases b:x=[43]
 .subst b;rfl
 by_cases c:x=[33]
 .subst c;rfl
 by_cases d:x=[63]
 .subst d;rfl
 rw[ci<|ne _ h1,ci<|ne _ h2,ci<|ne _ a,ci<|ne _ b,ci<|ne _ c,ci<|ne _ d,uk,ai];unfold da bW gY;simp[h1,h2,a,b,c,d]
inductive ZO(vs:List V)(H:Hp)(Q:VK)(_:XK):Prop|m(x:_)(_:vs=[.str<|S x])(_:1<=x.length)(_:x.length<=1000)(_:Q (.str<|S<|dw x) H)
def ZP:Ok P w K mg base 3 "dual_word" ["word"] ZO:=by
 obtain⟨b,c,d⟩:=T.LN;refine bh ["word"] T.W_ λH vs Q nd f h=>?_;obtain⟨x,rfl,h1,h2,k⟩:=h;refine⟨_,az (yw (pw<|UE (pv 0)<|bj c)<|yr<|uu (bj c)<|pv 0)<|yr<|j_ (d_<|yc (ES T) f<|y1<|pv 0) (yc (L4 T) f<|y1<|pv 0)<|cJ lh (bj T.xf)<|pv 0,?_⟩;refine⟨b,_,.inr<|S x,J,d,J,?_⟩;unfold dw at k;cases a:da x with
 |true=>rw[a,aj J]at k;have e:=ET x;rw[a,aj J]at e;rw[e];exact⟨b,_,.inr<|S x,_,J,d,J,e,k⟩
 |false=>
  rw[a,ai gn]at k;have e:=ET x;rw[a,ai gn]at e;rw[e];refine⟨x,J,h1,h2,?_⟩;refine dq (λh=>?_) λh=>?_
  .have g:=dR h;rw[aj g]at k;refine⟨x,J,h1,h2,?_⟩;unfold xi;exact aj g▸k
  .rw[ai λz=>h<|bP z]at k;refine⟨S [126],S x,J,J,by rw[bK,bK,bn];simp only[dP];lia,?_⟩;rw[iw];exact k
def ZQ{l:List Ä}{x:Ä}(h:l[i]?=O x):wV (l.take (i+1))=wV (l.take i)++[V.str (S x)]:=by rw[gC h];unfold wV;rw[bU];rfl
inductive ZR(vs:List V)(H:Hp)(Q:VK)(_:XK):Prop|m(A fa:_)(_:vs=[.ref fa])(_:bF H A fa)(_:Å A<=100000)(_:∀H' a,aa H H'->H a=U->bF H' (Æ A) a->Q (.ref a) H')
def rL:Ok P w K mg base 4 "dual_of" ["formula"] ZR:=bh ["formula","word"] T.W9 λH vs Q nd p h=>by
 obtain⟨A,g,rfl,c,t,k⟩:=h;refine⟨_,yr (rl IQ J T.LL boot_tuple (y1 (yv 1 nd (wg (pv 0)) (λ_ _ _ _ _=>(yc (ZP T) p (y1 (pv 1))))))),?_⟩;have q:=K8 c.2;refine⟨g,J,⟨_,aV.of c.1⟩,λD j=>Di (λi H'=>aa H H'/\H' D=O (.ae (wV (((wd A).map dw).take i))))
  ⟨aa.ab j,aq⟩ (λi H' _ e=>aV.of (e.1 _ _ c.1)) (λi v H' r e=>?_) (λH' e=>?_)⟩
 .obtain⟨x,m,rfl⟩:=jP r;obtain⟨d,f⟩:=e;have s:=q x (bM m);refine⟨J,?_⟩;simp only[gA,fi];refine⟨x,J,s.1,Z,_,f,?_,?_,?_⟩
  .rw[dI,eh,bn,aK,ee];lia
  .intro b o e;exact au (bv e j)▸d _ _ e
  .rw[aq,ZQ (by rw[aR,m];rfl)]
 .obtain⟨d,f⟩:=e;rw[dI,jZ (by rw[aK];exact aN _),<-lB c.2]at f;refine⟨D,_,J,.inl ⟨ao.of f,λl n=>k _ l (d.trans (aa.ab n)) (d.free n) ⟨aq,by rw[gh];exact c.2⟩⟩⟩
def tG(K:Ñ)(H:Hp)(l:À)(ws:List Ä):Prop:=ao K H l (wV ws)\/aV K H l (wV ws)
def tG.same{l:À}{a:List Ä}(h:tG K H l a)(s:aa H H'):tG K H' l a:=h.imp (λh=>s.seq h) λh=>s.be h
def bF.iK(h:bF H A a):tG K H a (wd A):=.inr<|aV.of h.1
def ZS{p:Ä->Bool}{l:List Ä}{x:Ä}(h:l[i]?=O x):(l.take (i+1)).filter p=(l.take i).filter p++(if p x=true then[x]else[]):=by rw[gC h,sH,jd];rfl
inductive ZT(K:Ñ)(vs:List V)(H:Hp)(Q:VK)(_:XK):Prop|m(l ws:_)(_:vs=[.ref l])(_:tG K H l ws)(_:ws.length<=200000)(_:∀H' D,aa H H'->H D=U->H' D=O (.ae<|wV<|ws.filter λw=>!da w)->Q (.ref D) H')
def L5:Ok P w K mg base 1 "atoms_of" ["formula"] (ZT K):=by
 obtain⟨s,A,B⟩:=T.LN;refine bh ["formula","word"] T.Xb λH vs Q nd C h=>?_;obtain⟨l,c,rfl,f,E,k⟩:=h;refine⟨_,yr (wE J nd (Ve (pv 0)) (uj (own:=[("word",1)]) (by rfl)) (λ_ _ _ _ _=>(yx 1 nd)) (λ_ _ _ _ _=>(zq (pw (Vh J J J (pv 1) (bj A))))) (λ_ _ _ _ _=>(pv 1))),?_⟩;have turn:∀D,H D=U->∀i x H',c[i]?=O x->(aa H H'/\H' D=O (.ae (wV ((c.take i).filter λw=>!da w))))->fu 1 (.str (S x)) (bo (L2.start ["formula","word"] [.ref l]) [1]) H' λm H2=>bo m [1]=bo (L2.start ["formula","word"] [.ref l]) [1]/\tB (DL P w K (dD 1) (tC (.ref s))) m H2 λb n=>if b=true then dD 1 m n λy q=>∃acc,q D=O (.ae acc)/\acc.length<É/\(aa H (ab q D (.ae (acc++[y])))/\(ab q D (.ae (acc++[y]))) D=O (.ae (wV ((c.take (i+1)).filter λw=>!da w))))else(aa H n/\n D=O (.ae (wV ((c.take (i+1)).filter λw=>!da w)))):=by
  intro D d i x H' g e;obtain⟨t,u⟩:=e;refine⟨J,?_⟩;refine⟨s,_,.inr (S x),J,B,J,?_⟩;have j:=ZS (p:=λw=>!da w) g;rw[ET x];cases z:da x with
  |true=>rw[z]at j;refine⟨t,?_⟩;rw[j];simpa using u
  |false=>
   rw[z]at j;refine⟨_,u,?_,λb o e=>?_,?_⟩
   .have:((c.take i).filter λw=>!da w).length<=(c.take i).length:=mU _ _;rw[eh]at this;rw[dI,bn];lia
   .exact au (bv e d)▸t _ _ e
   .rw[aq,j];unfold wV;rw[bU];rfl
 have fin:∀D,H D=U->∀H',(aa H H'/\H' D=O (.ae (wV ((c.take (wV c).length).filter λw=>!da w))))->Q (.ref D) H':=λD d H' e=>by rw[dI,l_]at e;exact k H' D e.1 d e.2
 rcases f with f|f
 .refine .inl ⟨l,J,⟨_,f⟩,λD d=>ui (λi H'=>aa H H'/\H' D=O (.ae (wV ((c.take i).filter λw=>!da w))))
   ⟨aa.ab d,aq⟩ (λi H' _ e=>e.1.seq f) (λi v H' r e=>?_) (fin D d)⟩
  obtain⟨x,g,rfl⟩:=jP r;exact turn D d i x H' g e
 .refine .inr ⟨l,J,⟨_,f⟩,λD d=>Di (λi H'=>aa H H'/\H' D=O (.ae (wV ((c.take i).filter λw=>!da w))))
   ⟨aa.ab d,aq⟩ (λi H' _ e=>e.1.be f) (λi v H' r e=>?_) (fin D d)⟩
  obtain⟨x,g,rfl⟩:=jP r;exact turn D d i x H' g e
def xj:∀{A:Â},aE A=true->(ã A).length<=16*Å A:=by
 have nm:∀{a:Ô},Õ a=true->a.length<=12:=λ{a} h=>by unfold Õ at h;simp only[aS,du]at h;exact h.2.1
 have pr:∀b t,(ĵ b t).length<=t.length+2:=λb t=>by
  unfold ĵ;split
  .simp only[aJ,bw,f9];lia
  .lia
 have ch:∀s x y a b,(chain s x y a b).length<=a.length+b.length+5:=λs x y a b=>by unfold chain;have h1:=pr (x !=0) a;have h2:=pr (y !=0&&y !=s) b;simp only[bw,aJ];omega
 intro A;induction A with
 |atom n a=>
  intro h;have:=nm h;show(if n=true then 126::a else a).length<=16;split
  .simp only[aJ];lia
  .lia
 |tensor A B c d=>intro h;simp only[aE,aS]at h;have h1:=c h.1;have h2:=d h.2;have:=ch 42 (þ A) (þ B) (ã A)<|ã B;show(chain 42 _ _ _ _).length<=16*(1+Å A+Å B);lia
 |par A B c d=>intro h;simp only[aE,aS]at h;have h1:=c h.1;have h2:=d h.2;have:=ch 124 (þ A) (þ B) (ã A)<|ã B;show(chain 124 _ _ _ _).length<=16*(1+Å A+Å B);lia
 |wth A B c d=>intro h;simp only[aE,aS]at h;have h1:=c h.1;have h2:=d h.2;have:=ch 38 (þ A) (þ B) (ã A)<|ã B;show(chain 38 _ _ _ _).length<=16*(1+Å A+Å B);lia
 |plus A B c d=>intro h;simp only[aE,aS]at h;have h1:=c h.1;have:=ch 43 (þ A) (þ B) (ã A)<|ã B;show(chain 43 _ _ _ _).length<=16*(1+Å A+Å B);lia
 |ofc A c=>intro h;have h1:=c h;have:=pr (þ A !=0)<|ã A;show(33::ĵ (þ A !=0) (ã A)).length<=16*(1+Å A);simp only[aJ];lia
 |whn A c=>intro h;have h1:=c h;have:=pr (þ A !=0)<|ã A;show(63::ĵ (þ A !=0) (ã A)).length<=16*(1+Å A);simp only[aJ];lia
def kH{x:V}:(xs.reverse++[x])[(xs.reverse++[x]).length-1]?=O x:=by simp
def jQ{x:V}:(xs.reverse++[x]).dropLast=xs.reverse:=by simp
inductive ZU(vs:List V)(H:Hp)(Q:VK)(_:XK):Prop|m(tp x f fs:_)(_:vs=[.ref tp,.str<|S fs])(_:H tp=O (.be [.str<|S x,.str<|S f]))(_:f.length<=2000000)(_:Q (.str<|S<|br x f fs) H)
def EU:Ok P w K mg base 1 "bracketed" ["pair","free_sign"] ZU:=by
 obtain⟨a2,b,c⟩:=T.rK;refine bh ["pair","free_sign"] T.Xd λH vs Q nd d h=>?_;obtain⟨tp,x,f,fs,rfl,a,e,k⟩:=h;refine⟨_,az (yw (PW.pt<|tZ (yq jJ (yt (pv 0) aG)<|bj b)<|tY<|yq ki (yt (pv 0) aG)<|pv 1)<|yr<|cJ lh (cJ lh cz<|yt (pv 0) aG) cz)<|yr<|yt (pv 0) aG,?_⟩;unfold br at k;refine⟨_,_,aV.of a,J,a2,_,J,.inr<|c H,J,J,?_⟩;refine am (on _) ?_;cases h2:bW x with
 |true=>
  rw[h2,je]at k;refine ba ⟨_,_,aV.of a,J,J,?_⟩;rw[fR];refine dq (λh=>?_) λh=>?_
  .rw[aj h]at k;refine⟨_,_,aV.of a,J,S [40],S f,J,J,?_,S [40]++S f,S [41],J,J,?_,?_⟩
   .rw[bK,bK,bn];simp only[dP];lia
   .rw[iw,bK,bK,bn];simp only[dP,bw];lia
   .rw[iw,iw];exact k
  .rw[ai h]at k;exact⟨_,_,aV.of a,J,k⟩
 |false=>rw[h2,kO,ai gn]at k;exact aU<|aU ⟨_,_,aV.of a,J,k⟩
def qf(H:Hp):List V->List Â->Prop
|[],[]=>True
|v::vs,B::st=>(∃m,v=.ref m/\H m=O (.be [.str<|S<|hd B,.str<|S<|ã B]))/\qf H vs st
|_,_=>False
theorem qf.aT{H H':Hp}(s:fg H H'):∀{vs:List V}{st:List Â},qf H vs st->qf H' vs st
|[],[],_=>dO
|_::_,_::_,⟨⟨m,e,h⟩,r⟩=>⟨⟨m,e,s _ _ h dO⟩,qf.aT s r⟩
|[],_::_,h|_::_,[],h=>h
theorem qf.len{H:Hp}:∀{vs:List V}{st:List Â},qf H vs st->vs.length=st.length
|[],[],_=>rfl
|_::_,_::_,h=>by simp[qf.len h.2]
|[],_::_,h|_::_,[],h=>h.elim
def uN{m:À}(h:H m=O (.ae xs)):fg H (ab H m o):=λc u e z=>by rw[au];exact e;intro q;subst q;rw[h]at e;cases e;exact z
def AB(x f fs:Ä):(br x f fs).length<=f.length+2:=by
 unfold br;split
 .simp only[aJ,bw,f9];lia
 .omega
inductive ZV(vs:List V)(H:Hp)(Q:VK)(_:XK):Prop|m(A fa:_)(_:vs=[.ref fa])(_:bF H A fa)(_:Å A<=50000)(_:∀H',aa H H'->Q (.str<|S<|ã A) H')
def L6:Ok P w K mg base 2 "form_of" ["formula"] ZV:=by
 obtain⟨a1,lK,gZ⟩:=T.uM;obtain⟨a2,jR,jE⟩:=T.rK;refine bh ["formula","met","word","first","form"] T.Xc λH vs Q nd R h=>?_;obtain⟨A,a3,rfl,C,hz,k⟩:=h;refine⟨_,az (ys 1 nd (bH cW)) (az (yo (Kq J T.LM (y1 (pv 0))) (yx 2 nd) (az (pF (yq jJ (pv 2) (bj jR)) (az (ys 3 nd (li jz mV mW lm (pv 1))) (bS (ys 4 nd (cJ lh (cJ lh (yc (EU T) R (y2 (pv 3) cz)) (pv 2)) (yc (EU T) R (y2 (li jz mV mW lm (pv 1)) (pv 2))))))) (bS (pF (yq jJ (pv 2) (bj lK)) (bS (ys 4 nd (cJ lh (pv 2) (yc (EU T) R (y2 (li jz mV mW lm (pv 1)) cz))))) (bS (ys 4 nd (pv 2)))))) (bS (yA (pv 1) (pL (y2 (pv 2) (pv 4))))))) (yr (yt (yl (pv 1) aG) aG))),?_⟩;have pA:=Ac C.2;have GQ:=jM C.2;have wl:=ee A;refine⟨cM _,λM p=>?_⟩;have s0:aa H (ab H M (.ae [])):=aa.ab p;refine⟨a3,_,J,aV.of (s0 _ _ C.1),Ks (λi G H'=>c0 λ(st:List Â)(vs:List V)(I a4 L:Option V)=>G=[O (.ref a3),O (.ref M),I,a4,L]/\aa H H'/\H' M=O (.ae vs.reverse)/\qf H' vs st/\aeP ((wd A).drop ((wd A).length-i))=O st)
  ⟨[],[],U,U,U,J,s0,aq,dO,by rw[xG,mR];rfl⟩ ?_ ?_ ?_⟩
 .rintro i G H' _ ⟨st,vs,I,a4,L,rfl,j,_⟩;exact aV.of (j _ _ C.1)
 .rintro i v G H' hi aav ⟨st,vs,I,a4,L,rfl,j,f,s,u⟩;rw[dI]at hi aav;obtain⟨x,cr,a5,Η,rM⟩:=LB pA hi u;rw[EJ a5]at aav;cases aav;have GR:=EB u;rw[ib]at GR;have N:=K7 (λy hy=>GQ y (afo hy)) u;have fl:∀B∈st,(ã B).length<=800000:=λB hB=>by have h1:=xj (N B hB);have h2:=WQ hB;lia
  have qN:st.length<=50000:=by have:=EC st;lia
  have xl:=K8 C.2 x (bM a5);refine⟨a2,_,J,.inr (jE _),J,J,?_⟩;refine am (on _) ?_;rcases Ad Η with⟨h2,X,Y,r,rfl,rfl⟩|⟨h2,h1,X,r,rfl,rfl⟩|⟨h2,h1,rfl⟩
  .rw[h2];refine ba ?_;match vs,s with
   |vX::vY::g,⟨⟨D,eX,E⟩,⟨a0,eY,hY⟩,F⟩=>
   subst eX eY;have hX0:=fl X Gc;have hY0:=fl Y Gc;rw[jA]at f;have l:D≠M:=aY E f nofun;have ne2:a0≠M:=aY hY f nofun;refine⟨.inl ⟨J,_,ao.of f⟩,M,_,_,J,J,f,kH,?_⟩;rw[jQ,jA];have e1:(ab H' M (.ae (g.reverse++[V.ref a0]))) M=O (.ae (g.reverse++[V.ref a0])):=aq;refine⟨D,_,_,[],J,by rw[au l];exact E,Z,_,_,J,J,?_,?_⟩
   .have:=AB (hd X) (ã X) [];rw[bK,bK,bn];lia
   rw[iw];refine⟨.inl ⟨J,_,ao.of e1⟩,M,_,_,J,J,e1,kH,?_⟩;rw[jQ,jm];refine⟨a0,_,_,x,J,by rw[au ne2];exact hY,Z,_,_,J,J,?_,?_⟩
   .have h1:=AB (hd X) (ã X) [];have h3:=AB (hd Y) (ã Y) x;rw[bK,bK,bw,bn];lia
   rw[iw,<-Wn h2 (N X Gc) (N Y Gc)];have e2:(ab H' M (.ae g.reverse)) M=O (.ae g.reverse):=aq;have sA:aa H (ab H' M (.ae g.reverse)):=λb o e=>au (bv e p)▸j _ _ e;refine⟨.inl ⟨J,_,ao.of e2⟩,Ob,λt d=>⟨M,_,_,J,J,aa.ab d _ _ e2,?_,?_⟩⟩
   .have:=F.len;simp only[aJ]at qN;rw[BA,bn];lia
   refine⟨two (sg x) X Y::r,.ref t::g,_,_,_,J,λb o e=>?_,?_,⟨⟨t,J,?_⟩,?_⟩,rM⟩
   .exact au (bv e p)▸aa.ab d _ _ (sA _ _ e)
   .rw[aq,jA]
   .rw[au (λz=>by subst z;rw[e2]at d;cases d),aq,Wq h2]
   .exact F.aT ((uN f).trans ((aa.aT (aa.ab d)).trans (uN (aa.ab d _ _ e2))))
  .rw[h2];refine aU ⟨a1,_,J,.inr (gZ _),J,J,?_⟩;refine ak ((mG _).trans h1) ?_;match vs,s with
   |vX::g,⟨⟨D,eX,E⟩,F⟩=>
   subst eX;have hX0:=fl X Gc;rw[jA]at f;have l:D≠M:=aY E f nofun;refine⟨.inl ⟨J,_,ao.of f⟩,M,_,_,J,J,f,kH,?_⟩;rw[jQ];refine⟨D,_,_,[],J,by rw[au l];exact E,Z,_,_,J,J,?_,?_⟩
   .have:=AB (hd X) (ã X) [];rw[bK,bK,bn];lia
   rw[iw,<-Wo h1 (N X Gc)];have e2:(ab H' M (.ae g.reverse)) M=O (.ae g.reverse):=aq;have sA:aa H (ab H' M (.ae g.reverse)):=λb o e=>au (bv e p)▸j _ _ e;refine⟨.inl ⟨J,_,ao.of e2⟩,Ob,λt d=>⟨M,_,_,J,J,aa.ab d _ _ e2,?_,?_⟩⟩
   .have:=F.len;simp only[aJ]at qN;rw[BA,bn];lia
   refine⟨aeO x X::r,.ref t::g,_,_,_,J,λb o e=>?_,?_,⟨⟨t,J,?_⟩,?_⟩,rM⟩
   .exact au (bv e p)▸aa.ab d _ _ (sA _ _ e)
   .rw[aq,jA]
   .rw[au (λz=>by subst z;rw[e2]at d;cases d),aq,Wr h1]
   .exact F.aT ((uN f).trans ((aa.aT (aa.ab d)).trans (uN (aa.ab d _ _ e2))))
  .rw[h2];refine aU ⟨a1,_,J,.inr (gZ _),J,J,?_⟩;refine al ((mG _).trans h1) ?_;refine⟨.inl ⟨J,_,ao.of f⟩,Ob,λt d=>⟨M,_,_,J,J,aa.ab d _ _ f,?_,?_⟩⟩
   .have:=s.len;rw[BA,bn];lia
   have ZW:¬x=[126]:=λz=>by
    rcases GQ x (bM a5)with q|⟨n,a,hn,q⟩
    .unfold da at q;rw[h1,h2]at q;cases q
    .rw[z]at q;obtain⟨c,r,rfl,hc⟩:=zU hn;cases n
     .have:c=126/\r=[]:=by simpa[aw]using q.symm
      exact(KG hc).1 this.1
     .have:([126]:Ä)=126::c::r:=q;simp at this
   refine⟨jr x::st,.ref t::vs,_,_,_,J,λb o e=>?_,?_,⟨⟨t,J,?_⟩,?_⟩,rM⟩
   .exact au (bv e p)▸aa.ab d _ _ (j _ _ e)
   .rw[aq,jA]
   .rw[au (λz=>by subst z;rw[f]at d;cases d),aq,Ws,Wp x ZW]
   .exact s.aT ((aa.aT (aa.ab d)).trans (uN (aa.ab d _ _ f)))
 .rintro G H' ⟨st,vs,I,a4,L,rfl,j,f,s,u⟩;rw[dI,Ëj,jb,pA]at u;cases u;match vs,s with
  |[v],⟨⟨m,e,qJ⟩,_⟩=>
  subst e;exact⟨_,_,ao.of f,J,_,_,aV.of qJ,J,k H' j⟩
def ZX{ta}{g:TG}{tb}{D}{d:Hp}{l:À}(e:∀Q,Q [.ref l] H->ta z H Q)(c:ao K d l xs\/aV K d l xs)(f:aa d H)(b:Nat->L2.St->Hp->Prop)(h:b 0 z H)(keep:∀i a H',b i a H'->aa d H') (j:∀i x a H',i<xs.length->xs[xs.length-1-i]?=O x->b i a H'->g x a H' λk H2=>tb {D with nx:=b (i+1),ct:=b (i+1),bk:=D.nx} k H2)(Β:∀a H',b xs.length a H'->D.nx a H'):CQ (Kr K ta) g tb D z H:=by
 rcases c with c|c
 .exact .inl<|e _ ⟨l,xs,J,f.seq c,Vi b h (λi a H' _ p=>(keep i a H' p).seq c) j Β⟩
 .exact .inr<|e _ ⟨l,xs,J,f.be c,Ks b h (λi a H' _ p=>(keep i a H' p).be c) j Β⟩
def dV(st:List Â):List V:=st.map λB=>V.int<|Ý B
def uO{r:List Â}:(dV (X::r)).reverse=(dV r).reverse++[V.int (Ý X:Nat)]:=by unfold dV;rw[bz,jA]
inductive ZY(K:Ñ)(vs:List V)(H:Hp)(Q:VK)(_:XK):Prop|m(l A:_)(_:vs=[.ref l])(_:tG K H l (wd A))(_:aE A=true)(_:Å A<=200000)(_:∀H',aa H H'->Q (.int<|Ý A) H')
def ZZ:Ok P w K mg base 1 "depth_of" ["formula"] (ZY K):=by
 have⟨a1,E,u⟩:=T.uM;have⟨a2,F,G⟩:=T.rK;refine bh ["formula","met","word","first"] T.Xe λH vs Q nd N h=>?_;obtain⟨l,A,rfl,I,y,a0,k⟩:=h;refine⟨_,az (ys 1 nd (bH cW)) (az (yo (Vf J T.LM (y1 (pv 0))) (yx 2 nd) (bS (pF (yq jJ (pv 2) (bj F)) (az (ys 3 nd (li PySem.F.plainAttrs_list PySem.F.slot_list_pop PySem.F.type_list_pop lm (pv 1))) (bS (yA (pv 1) (cJ wk aG (eF (RD J) J T.LK boot_max (y2 (pv 3) (li PySem.F.plainAttrs_list PySem.F.slot_list_pop PySem.F.type_list_pop lm (pv 1)))))))) (bS (pF (yq jJ (pv 2) (bj E)) (bS (yA (pv 1) (cJ wk aG (li PySem.F.plainAttrs_list PySem.F.slot_list_pop PySem.F.type_list_pop lm (pv 1))))) (bS (yA (pv 1) aG))))))) (yr (yl (pv 1) aG))),?_⟩;have z:=Ac y;have wl:=ee A;refine⟨Nat.zero_le _,λM B=>?_⟩;have C:aa H (ab H M (.ae [])):=aa.ab B;refine ZX (λQ q=>q) I C (λi f H'=>c3 λst g j=>f=[O (.ref l),O (.ref M),g,j]/\aa H H'/\H' M=O (.ae (dV st).reverse)/\aeP ((wd A).drop ((wd A).length-i))=O st)
  ⟨[],U,U,J,C,aq,by rw[Nat.sub_zero,List.drop_length];rfl⟩ (λi f H' p=>?_) ?_ ?_
 .obtain⟨st,g,j,rfl,c,_⟩:=p;exact c
 .rintro i v f H' hi m ⟨st,g,j,rfl,c,a,d⟩;rw[dI]at hi m;have⟨x,a3,a4,Η,n⟩:=LB z hi d;rw[EJ a4]at m;cases m;have L:=EB d;rw[List.length_drop]at L;have D:st.length<=200000:=by have:=EC st;lia
  have s:∀r,(dV r).reverse.length=r.length:=λr=>by unfold dV;simp
  have g_:∀xs,aa H (ab H' M (.ae xs)):=λxs b o e=>au (bv e B)▸c _ _ e;refine⟨a2,_,J,.inr (G _),J,J,?_⟩;show if d8 (.str (S x)) [.str (S [42]),.str (S [124]),.str (S [38]),.str (S [43])]=true then _ else _;rw[on];rcases Ad Η with⟨h2,X,Y,r,rfl,rfl⟩|⟨h2,h1,X,r,rfl,rfl⟩|⟨h2,h1,rfl⟩
  .rw[h2];refine ba ?_;rw[uO]at a;refine⟨.inl ⟨J,_,ao.of a⟩,M,_,_,J,J,a,kH,?_⟩;rw[jQ,uO];have t:(ab H' M (.ae ((dV r).reverse++[V.int (Ý Y)]))) M=O (.ae ((dV r).reverse++[V.int (Ý Y)])):=aq;refine⟨.inl ⟨J,_,ao.of t⟩,.inl ⟨J,_,ao.of t⟩,M,_,_,J,J,t,kH,?_⟩;rw[jQ,jm];have e2:(ab H' M (.ae (dV r).reverse)) M=O (.ae (dV r).reverse):=aq;refine⟨_,_,J,M,_,_,J,J,e2,?_,?_⟩
   .rw[s,sizeLine_eq];simp only[List.length_cons]at D;lia
   rw[jm];refine⟨two (sg x) X Y::r,_,_,J,g_ _,?_,n⟩;rw[aq,uO,Wt];congr 4;show V.int (1+(if(Ý Y) > (Ý X:Int)then(Ý Y:Int)else(Ý X)))=V.int ((1+max (Ý X) (Ý Y):Nat));congr 1;split<;>lia
  .rw[h2];refine aU ⟨a1,_,J,.inr (u _),J,J,?_⟩;show if d8 (.str (S x)) [.str (S [33]),.str (S [63])]=true then _ else _;rw[mG,h1];refine ba ?_;rw[uO]at a;refine⟨.inl ⟨J,_,ao.of a⟩,.inl ⟨J,_,ao.of a⟩,M,_,_,J,J,a,kH,?_⟩;rw[jQ];have e2:(ab H' M (.ae (dV r).reverse)) M=O (.ae (dV r).reverse):=aq;refine⟨M,_,_,J,J,e2,?_,?_⟩
   .rw[s,sizeLine_eq];simp only[List.length_cons]at D;lia
   rw[jm];refine⟨aeO x X::r,_,_,J,g_ _,?_,n⟩;rw[aq,uO,Wu];congr 5
  .rw[h2];refine aU ⟨a1,_,J,.inr (u _),J,J,?_⟩;show if d8 (.str (S x)) [.str (S [33]),.str (S [63])]=true then _ else _;rw[mG,h1];refine aU ⟨.inl ⟨J,_,ao.of a⟩,M,_,_,J,J,a,?_,?_⟩
   .rw[s,sizeLine_eq];lia
   refine⟨jr x::st,_,_,J,g_ _,?_,n⟩;rw[aq,uO,Wv];rfl
 .rintro f H' ⟨st,g,j,rfl,c,a,d⟩;rw[dI,Ëj,List.drop_zero,z]at d;cases d;exact⟨_,_,ao.of a,J,k H' c⟩
inductive Z2(K:Ñ)(vs:List V)(H:Hp)(Q:VK)(_:XK):Prop|m(l A:_)(_:vs=[.ref l])(_:tG K H l (wd A))(_:aE A=true)(_:Å A<=200000)(_:∀H',aa H H'->Q (.bl<|Ø A) H')
def EV:Ok P w K mg base 2 "is_in_bounds" ["formula"] (Z2 K):=bh ["formula"] T.Xf λH vs Q nd c h=>by
 obtain⟨l,A,rfl,a,d,e,k⟩:=h;refine⟨_,az (yw (PW.pt<|n9 (yq q0 (ye T.cS<|pv 0)<|bj T.W2)<|pB<|yq q0 (ye T.cS<|yc (L5 T) c<|y1<|pv 0)<|bj T.W1)<|yr fK)<|yr<|yp ud (yc (ZZ T) c<|y1<|pv 0)<|bj T.W3,?_⟩;let wl:=ee A;let f:((wd A).filter λw=>!da w).length=ï A:=by rw[js d,aK,iW]
 refine⟨l,_,J,a,?_⟩;rw[dI,wl];unfold Ø at k;refine dq (λh1=>?_) λh1=>?_
 .let h1:=dR h1;let kk:=k H<|aa.refl H;rw[show decide (Å A<=200)=false from bO Z,kO,vc]at kk;exact ba kk
 .let h1:Å A<=200:=by
   by_cases z:Å A<=200
   .exact z
   .exact absurd (bP Z) h1
  refine⟨l,_,J,a,Z,λH1 D b j g=>?_⟩;refine⟨D,_,J,.inl<|ao.of g,?_⟩;rw[dI,f];refine dq (λh2=>?_) λh2=>?_
  .let h2:=dR h2;let kk:=k H1 b;rw[show decide (ï A<=60)=false from bO Z,kO]at kk;exact kk
  .let h2:ï A<=60:=by
    by_cases z:ï A<=60
    .exact z
    .exact absurd (bP Z) h2
   refine⟨l,A,J,a.same b,d,e,λH2 i=>?_⟩;let kk:=k H2<|b.trans i;rw[bP h1,bP h2,je,je]at kk;show Q (.bl<|decide<|(Ý A:Int)<=40) H2;rw[show decide ((Ý A:Int)<=40)=decide (Ý A<=40)from iC.mpr Z];exact kk
def iK(As:List Â):List Text:=As.flatMap wd
def qg(A:Â)(a:List Â):iK (A::a)=wd A++iK a:=rfl
def Z3(A:Â)(h:aE A=true):(c3 λx X Y=>bW x=true/\wd A=x::(wd X++wd Y)/\aE X=true/\aE Y=true)\/(c2 λx X=>bW x=false/\gY x=true/\wd A=x::wd X/\aE X=true)\/∃x,bW x=false/\gY x=false/\wd A=[x]:=by
 cases A with
 |atom n a=>exact .inr<|.inr ⟨aw n a,(ir h).1,(ir h).2,J⟩
 |tensor X Y|par X Y|wth X Y|plus X Y=>simp only[aE,aS]at h;exact .inl ⟨_,X,Y,J,J,h.1,h.2⟩
 |ofc X|whn X=>exact .inr<|.inl ⟨_,X,J,J,J,h⟩
inductive Z4(vs:List V)(H:Hp)(Q:VK)(_:XK):Prop|m(l:À)(ws cI:List Ä)(p:Nat)(X:Â)(_:vs=[.ref l,.int (p:Nat)])(_:H l=O (.be<|wV ws))(_:ws.drop p=wd X++cI)(_:p<=ws.length)(_:aE X=true)(_:Q (.int ((p+Å X:Nat):Int)) H)
def Z5:Ok P w K mg base 1 "end_of_formula" ["words","start"] Z4:=by
 obtain⟨a1,D,v⟩:=T.uM;obtain⟨a2,E,s⟩:=T.rK;refine bh ["words","start","wanted","place"] T.W8 λH vs Q nd L h=>?_;obtain⟨l,d,cI,p,X,rfl,j,Β,F,G,k⟩:=h;refine⟨_,az (ys 2 nd aG)<|az (ys 3 nd<|pv 1)<|az (qX sv (yq q0 (pv 2) aG)<|az (pF (yq jJ (yt (pv 0)<|pv 3)<|bj E) (bS (ua (i:=2) nd J (by first|exact Ĵ J|exact ī J) aG uc))<|bS<|yw (yq IM (yt (pv 0)<|pv 3)<|bj D) (bS (ua (i:=2) nd J (by first|exact Ĵ J|exact ī J) aG Rj))) (bS (ua (i:=3) nd J (by first|exact Ĵ J|exact ī J) aG uc)))<|yr<|pv 3,?_⟩;refine ?_;refine⟨λm y H'=>c2 λ(a:List Â)(q:Nat)=>y=[O<|.ref l,O<|.int (p:Nat),O<|.int (a.length:Nat),O<|.int (q:Nat)]/\H'=H/\(∀A∈a,aE A=true)/\d.drop q=iK a++cI/\q<=d.length/\q+(iK a).length=p+Å X/\m=(iK a).length,⟨_,[X],p,J,J,by simpa using G,by simpa[iK]using Β,F,by simp[iK,ee],J⟩,?_⟩;rintro m y H' ⟨a,q,rfl,rfl,aF,nn,M,b,rfl⟩;refine ?_;match a,aF,nn,b with
 |[],aF,nn,b=>
  have:q=p+Å X:=by simpa[iK]using b
  rw[this];exact k
 |A::a,aF,nn,b=>
  have len:(A::a).length=a.length+1:=J;refine aC (bP<|show(0:Int)<((A::a).length:Nat) by rw[len];lia) ?_;have I:=aF A Gc;have t:∀B∈a,aE B=true:=λB c=>aF B (by simp[c]);rw[qg]at nn b;rw[bw]at b;have nu:∀(x:Ä)(r:List Ä),wd A=x::r->(wV d)[q]?=O (V.str<|S x)/\d.drop (q+1)=r++(iK a++cI)/\q+1<=d.length:=λx r e=>by
   rw[e,jc,Om]at nn;have h1:d[q]?=O x:=by have:=cw ω nn;rw[Óg]at this;simpa using this
   refine⟨EJ h1,?_,(b9.mp h1).1⟩;rw[<-so,nn];rfl
  refine⟨λz C=>∃(f:List Â),z=[O<|.ref l,O<|.int (p:Nat),O<|.int (f.length:Nat),O<|.int ((q+1:Nat):Int)]/\C=H'/\(∀A∈f,aE A=true)/\d.drop (q+1)=iK f++cI/\q+1<=d.length/\q+1+(iK f).length=p+Å X,?_,?_⟩
  .rintro z C ⟨f,rfl,rfl,b1,b2,b3,b4⟩;refine⟨(iK f).length,?_,f,q+1,J,J,b1,b2,b3,b4,J⟩;rw[qg,bw];lia
  rcases Z3 A I with⟨x,Y,a3,h2,e,u,a0⟩|⟨x,Y,h2,h1,e,u⟩|⟨x,h2,h1,e⟩
  .obtain⟨g,n,o⟩:=nu x _ e;refine⟨_,_,aV.of j,cb g,a2,_,J,.inr<|s _,J,J,?_⟩;refine am ((on _).trans h2) ?_;refine ba ⟨_,J,_,_,J,J,?_⟩;refine⟨_,J,_,_,J,J,Y::a3::a,?_,J,?_,?_,o,?_⟩
   .show[O _,O _,O<|V.int (((A::a).length:Nat)+1:Int),O<|V.int ((q:Int)+1)]=_;rfl
   .intro B c;rcases a_.mp c with rfl|c
    .exact u
    .rcases a_.mp c with rfl|c
     .exact a0
     .exact t B c
   .rw[n,qg,qg];simp
   .rw[e]at b;rw[qg,qg];simp only[bw,aJ]at b⊢;lia
  .obtain⟨g,n,o⟩:=nu x _ e;refine⟨_,_,aV.of j,cb g,a2,_,J,.inr<|s _,J,J,?_⟩;refine am ((on _).trans h2) ?_;refine aU ⟨_,_,aV.of j,cb g,a1,_,J,.inr<|v _,J,J,?_⟩;show if(!d8 (.str<|S x) [.str<|S [33],.str<|S [63]])=true then _ else _;rw[mG,h1];refine aU ⟨_,J,_,_,J,J,Y::a,?_,J,?_,?_,o,?_⟩
   .show[O _,O _,O<|V.int ((A::a).length:Nat),O<|V.int ((q:Int)+1)]=_;rfl
   .intro B c;rcases a_.mp c with rfl|c
    .exact u
    .exact t B c
   .rw[n,qg];simp
   .rw[e]at b;rw[qg];simp only[bw,aJ]at b⊢;lia
  .obtain⟨g,n,o⟩:=nu x _ e;refine⟨_,_,aV.of j,cb g,a2,_,J,.inr<|s _,J,J,?_⟩;refine am ((on _).trans h2) ?_;refine aU ⟨_,_,aV.of j,cb g,a1,_,J,.inr<|v _,J,J,?_⟩;show if(!d8 (.str<|S x) [.str<|S [33],.str<|S [63]])=true then _ else _;rw[mG,h1];refine ba ⟨_,J,_,_,J,J,?_⟩;refine⟨_,J,_,_,J,J,a,?_,J,t,?_,o,?_⟩
   .show[O _,O _,O<|V.int (((A::a).length:Nat)-1:Int),O<|V.int ((q:Int)+1)]=_;rw[len,show((a.length+1:Nat):Int)-1=(a.length:Nat) by lia];rfl
   .rw[n];simp
   .rw[e]at b;simp only[aJ,f9]at b⊢;lia
noncomputable def gi:Â->List Â
|.atom _ _=>[]
|.tensor X Y|.par X Y|.wth X Y|.plus X Y=>[X,Y]
|.ofc X|.whn X=>[X]
inductive Z6(vs:List V)(H:Hp)(Q:VK)(_:XK):Prop|m(A:Â)(fa:À)(_:vs=[.ref fa])(_:bF H A fa)(_:Å A<=100000)(_:gi A≠[])(_:(∀X,gi A=[X]->∀(H':Hp)(l x:À),aa H H'->H l=U->H' l=O (.ae [.ref x])->bF H' X x->Q (.ref l) H'))(_:(∀X Y,gi A=[X,Y]->∀(H':Hp)(l x y:À),aa H H'->H l=U->H' l=O (.ae [.ref x,.ref y])->bF H' X x->bF H' Y y->Q (.ref l) H'))
def mx(n d a:Nat):HT.bi n d (O (a:Int))=min a n:=by
 unfold HT.bi;show(if(a:Int)<0 then _ else _)=_;rw[ai Z,sj]
def EW{a:Nat}(h:a<=xs.length):fL xs (O (a:Int)) U=xs.drop a:=by
 unfold fL;let h1:HT.bi xs.length 0 (O (a:Int))=a:=by rw[mx];lia
 let h2:HT.bi xs.length xs.length U=xs.length:=J;rw[h1,h2];exact jZ Gc
def Z7{a:Nat}(h:a<=b)(c:b<=xs.length):fL xs (O (a:Int)) (O (b:Int))=(xs.drop a).take (b-a):=by
 unfold fL;let h1:HT.bi xs.length 0 (O (a:Int))=a:=by rw[mx];lia
 let h2:HT.bi xs.length xs.length (O (b:Int))=b:=by rw[mx];lia
 rw[h1,h2]
def EX{a:Nat}(h:1<=a)(h2:a<=n):¬HT.bi n 0 (O (a:Int))=0:=by rw[mx];lia
def Z8(h:gi A=[X,Y])(b:aE A=true):∃x,gY x=false/\wd A=x::(wd X++wd Y)/\aE X=true/\aE Y=true/\Å A=1+Å X+Å Y:=by
 cases A with
 |atom n a|ofc z|whn z=>cases h
 |tensor _ _|par _ _|wth _ _|plus _ _=>cases h;simp only[aE,aS]at b;exact⟨_,J,J,b.1,b.2,J⟩
def Z9(h:gi A=[X])(a:aE A=true):∃x,gY x=true/\wd A=x::wd X/\aE X=true:=by
 cases A with
 |ofc z|whn z=>cases h;exact⟨_,J,J,a⟩
 |_=>cases h
def Z_(h:gi A≠[]):(∃X,gi A=[X])\/c2 λX Y=>gi A=[X,Y]:=by
 cases A with
 |atom n a=>exact absurd J h
 |ofc z|whn z=>exact .inl ⟨_,J⟩
 |_=>exact .inr ⟨_,_,J⟩
def aaa:Ok P w K mg base 2 "parts_of" ["formula"] Z6:=by
 obtain⟨a1,B,u⟩:=T.uM;refine bh ["formula","end"] T.W7 λH vs Q nd C h=>?_;obtain⟨A,f,rfl,c,G,cu,Γ,Ε⟩:=h;refine⟨_,az (yw (yq jJ (yt (pv 0) aG)<|bj B)<|yr<|bH<|y1<|oh C4 (pv 0) (km aG) uf)<|az (ys 1 nd<|yc (Z5 T) C<|y2 (pv 0) aG)<|yr<|bH<|y2 (oh C4 (pv 0) (km aG)<|km<|pv 1)<|oh C4 (pv 0) (km<|pv 1) uf,?_⟩;have wl:=ee A;have I:=Aa A;rcases Z_ cu with⟨X,g⟩|⟨X,Y,g⟩
 .obtain⟨x,h1,e,k⟩:=Z9 g c.2;have m:(wV<|wd A)[0]?=O (V.str (S x)):=by rw[e];rfl
  refine⟨_,_,aV.of c.1,cb (j:=0) m,a1,_,J,.inr<|u _,J,J,?_⟩;refine ak ((mG _).trans h1) ⟨_,J,f,_,J,aV.of c.1,λz=>EX (n:=(wV<|wd A).length) (a:=1) (aN _) (by rw[dI];lia) z.1,λp r=>?_⟩;have D:fL (wV<|wd A) (O 1) U=wV (wd X):=by have:=EW (xs:=wV (wd A)) (a:=1) (by rw[dI];lia);rw[show((1:Nat):Int)=1 from J]at this;rw[this,e];rfl
  rw[D];refine⟨Ge,λl d=>?_⟩;have i:aa H (ab H p<|.be (wV (wd X))):=aa.ab r;exact Γ X g _ l p (i.trans<|aa.ab d) (i.free d) aq ⟨aa.ab d _ _ aq,k⟩
 .refine gg λP0 p0=>?_;obtain⟨x,h1,e,k,E,F⟩:=Z8 g c.2;refine p0 ?_;have a0:=Aa X;have L:=Aa Y;have m:(wV<|wd A)[0]?=O (V.str (S x)):=by rw[e];rfl
  refine⟨_,_,aV.of c.1,cb (j:=0) m,a1,_,J,.inr<|u _,J,J,?_⟩;refine al ((mG _).trans h1) ⟨f,wd A,wd Y,1,X,J,c.1,by rw[e];rfl,Z,k,?_⟩;have M:(wV<|wd A).length=1+Å X+Å Y:=by rw[dI,wl,F]
  have s:fL (wV<|wd A) (O 1) (O ((1+Å X:Nat):Int))=wV (wd X):=by have:=Z7 (xs:=wV (wd A)) (a:=1) (b:=1+Å X) Z Z;rw[show((1:Nat):Int)=1 from J]at this;rw[this,e];unfold wV;rw[bz,Gg,jb,bU,show 1+Å X-1=((wd X).map λw=>V.str<|S w).length by rw[aK,ee];lia,OB]
  have t:fL (wV<|wd A) (O ((1+Å X:Nat):Int)) U=wV (wd Y):=by rw[EW Z,e];unfold wV;rw[bz,bU,Èj 1,Gg,show Å X=((wd X).map λw=>V.str<|S w).length by rw[aK,ee],OC]
  refine⟨_,J,_,J,f,_,J,aV.of c.1,λz=>EX (n:=(wV<|wd A).length) (a:=1) (aN _) Z z.1,λp r=>?_⟩;rw[s];have i:aa H (ab H p<|.be (wV (wd X))):=aa.ab r;refine⟨_,J,f,_,J,aV.of<|i _ _ c.1,λz=>EX (n:=(wV<|wd A).length) (a:=1+Å X) Z Z z.1,λq v=>?_⟩;rw[t];have y:=i.trans (aa.ab (o:=.be<|wV<|wd Y) v);refine⟨Ob,λl d=>?_⟩;exact Ε X Y g _ l p q (y.trans<|aa.ab d) (y.free d) aq ⟨aa.ab d _ _<|aa.ab v _ _ aq,k⟩ ⟨aa.ab d _ _ aq,E⟩
def aab{b}:(b.toNat∈(S t).cps.toList)↔b∈t:=by show b.toNat∈((t.map å).toArray).toList↔_;rw[vh,bZ];exact⟨λ⟨c,a,e⟩=>by rw[<-oQ.mp e];exact a,λh=>⟨b,h,J⟩⟩
def xk(b)(t:Ä):decide (b.toNat∈(S t).cps.toList)=decide (b∈t):=iC.mpr aab
def rN{p q:UInt8->Bool}(h:∀n:Fin 256,p (ŀ n)=q (ŀ n))(b):p b=q b:=by let:=h ⟨b.toNat,b.toNat_lt⟩;simpa using this
def aac(b):decide (b∈lower)=Ķ b:=rN (p:=λb=>decide (b∈lower)) OH b
def L7(b):decide (b∈lower++uL)=Ü b:=rN (p:=λb=>decide (b∈lower++uL)) OH b
def aad(b):decide (b∈EK)=Ą b:=rN (p:=λb=>decide (b∈EK)) OH b
def uP{c:Nat}(h:(S t).cps[i]?=O c):∃b,t[i]?=O b/\c=b.toNat:=by
 let h:((t.map å).toArray)[i]?=O c:=h;rw[List.getElem?_toArray,aR]at h;cases e:t[i]? with
 |none=>rw[e]at h;exact eG h
 |some b=>rw[e]at h;cases h;exact⟨b,J,J⟩
def rO(t:Ä):(S t).cps.size=t.length:=bK t
inductive EY(vs:List V)(H:Hp)(Q:VK)(_:XK):Prop|m(t:_)(_:vs=[.str<|S t])(_:t.length<=100000)(_:∀H',aa H H'->Q (.bl<|Õ t) H')
def xm:Ok P w K mg base 1 "is_name" ["text"] EY:=by
 refine bh ["text","sign"] T.Xi λH vs Q nd p h=>?_;obtain⟨t,rfl,q,k⟩:=h;have f:(S t).length<=sizeLine:=by rw[bK,bn];lia
 refine⟨_,(az (yw (PW.pt<|n9 (gy<|Rz ud ud aG (eF (pN) J T.cS mT<|y1<|pv 0)<|bj T.Xg)<|pB<|yq Ua (yi (pv 0) aG)<|bj T.Ar)<|yr fK)<|yr<|eF (zj J) J T.Aq Àa<|y1<|yv 1 nd (zy<|pv 0) λ_ _ _ _ _=>(yp wM (pv 1)<|cJ lh (bj T.Ar)<|bj T.EM)),?_⟩;have last:1<=t.length->t.length<=12->(t.head?).any Ķ=true->mr (xV (Ja K)<|dN (tm (JA<|dD 0) (fu 1) gA (kT (λx y H Q=>c2 λc z=>x=.str ⟨#[c]⟩/\y=.str z/\Q (.bl<|decide (c∈z.cps.toList)) H) (dD 1)
    (kT (λx y H Q=>c2 λi j=>x=.str i/\y=.str j/\i.length+j.length<=É/\Q (.str (i++j)) H) (tC<|.str<|S lower)<|tC<|.str<|S uL)) [1]) dF) (ey Q) (L2.start ["text","sign"] [.str (S t)]) H:=by
  intro h1 h2 a;refine⟨S t,J,λD l=>DH (λi H'=>H'=ab H D (.ae<|((t.map Ü).map V.bl).take i)) J (λi c H' m e=>?_) λH' e=>?_⟩
  .subst e;obtain⟨b,n,rfl⟩:=uP m;refine⟨J,?_⟩;simp only[gA,fi];refine⟨_,_,J,J,gn,b.toNat,_,J,J,_,aq,?_,?_⟩
   .rw[eh,bn];simp only[aK];lia
   .rw[iw,xk,L7,jm,gC (by rw[aR,aR,n];rfl)]
  .subst e;rw[rO,show((t.map Ü).map V.bl).take t.length=(t.map Ü).map V.bl from jZ Gc];refine⟨D,t.map Ü,J,ao.of aq,?_⟩;have:(t.map Ü).all id=Õ t:=by
    rw[oJ];unfold Õ;rw[a,bP h2,je,je];rfl
   rw[this];exact k _<|aa.ab l
 have d:Õ t=false->Q (.bl false) H:=λe=>by have:=k H<|aa.refl H;rw[e]at this;exact this
 refine⟨S t,J,f,?_⟩;refine dq (λh1=>?_) λh1=>?_
 .refine ?_;rw[bK]at h1⊢;refine dq (λh2=>?_) λh2=>?_
  .
   refine d ?_;have:¬t.length<=12:=by
    intro z;have:decide ((t.length:Int)<=12)=true:=bP Z;simp only[this]at h2;exact absurd h2 gn
   unfold Õ;rw[bO this];simp
  .have o:t.length<=12:=by
    by_cases z:t.length<=12
    .exact z
    .exfalso
     have:decide ((t.length:Int)<=12)=false:=bO Z;simp only[this]at h2;exact h2 J
   have g:1<=t.length:=by lia
   match t,g with
   |b::r,g=>
    refine⟨S (b::r),0,b.toNat,J,J,f,cb (by show((b::r).map å).toArray.toList[0]?=_;simp),b.toNat,_,J,J,?_⟩;rw[xk,aac];refine dq (λa=>?_) λa=>?_
    .refine d ?_;have:Ķ b=false:=by simpa using a
     show(Ķ b&&_)=false;rw[this,kO]
    .exact last Z o (by simpa using a)
 .refine ?_;refine d ?_;have:t=[]:=by
   cases t with
   |nil=>rfl
   |cons b r=>exact absurd (bP (by rw[bK];simp only[aJ];lia)) h1
  subst this;rfl
def aae(t:Ä)(p e:Nat)(a:p<=t.length)(he:e<=t.length):pZ (S t) (O (p:Int)) (O (e:Int))=S ((t.drop p).take (e-p)):=by
 unfold pZ;rw[HT.mx,HT.mx,bK,BB a,BB he];show(⟨((((t.map å).toArray).toList.drop p).take<|e-p).toArray⟩:Ã)=⟨(((t.drop p).take<|e-p).map å).toArray⟩;rw[vh,BC,By]
def oq(t:Ä):(S t).cps.toList=t.map UInt8.toNat:=by show((t.map å).toArray).toList=_;rw[vh]
def uQ{b}(h:t[i]?=O b):(S t).cps.toList[i]?=O b.toNat:=by rw[oq,aR,h];rfl
def aaf(t a:Ä)(p:Nat)(c:p<=t.length):ϛ (S t) (S a) (p:Int)=((t.drop p).take a.length==a):=by
 unfold ϛ;have e:fromIndex (S t).length p=p:=by unfold fromIndex;rw[ai Z];lia
 rw[e,StrLaws.subAt_eq,bK,bK,oq,oq,<-By,<-BC];by_cases h:(t.drop p).take a.length=a
 .let b:=cw ő h;rw[eh,ib]at b;rw[h,bP Z,je];simp
 .let h1:(((t.drop p).take a.length).map å==a.map å)=false:=by rw[gk];exact λz=>h<|toNat_inj z
  rw[h1,vc];exact(gk.mpr h).symm
def gj:Ä->Ä
|[]=>[]
|c::r=>if(decide (c=32)||Ą c)=true then[c]else if((c::r).take 2==[45,111])=true then[45,111]else if Õ ((c::r).takeWhile Ü)=true then(c::r).takeWhile Ü else[]
def AD(c)(r:Ä):gj (c::r)=if(decide (c=32)||Ą c)=true then[c]else if((c::r).take 2==[45,111])=true then[45,111]else if Õ ((c::r).takeWhile Ü)=true then(c::r).takeWhile Ü else[]:=rfl
inductive aag(vs:List V)(H:Hp)(Q:VK)(_:XK):Prop|m(t:_)(_:vs=[.str<|S t])(_:t.length<=10000000)(_:∀D,H D=U->Q (.ref D) (ab H D<|.ae<|t.map λb=>V.int b.toNat))
def AE:Ok P w K mg base 1 "numbers_of" ["text"] aag:=bh ["text","sign"] T.Xm λH vs Q nd g h=>by
 obtain⟨t,rfl,j,k⟩:=h;refine⟨_,yr<|yv 1 nd (zy<|pv 0) λ_ _ _ _ _=>(eF (Ik) J T.LO boot_ord<|y1<|pv 1),?_⟩;refine⟨S t,J,λD a=>DH (λi H'=>H'=ab H D (.ae<|(t.map λb=>V.int b.toNat).take i)) J (λi c H' d e=>?_) λH' e=>?_⟩
 .subst e;obtain⟨b,f,rfl⟩:=uP d;refine⟨J,?_⟩;simp only[gA,fi];refine⟨_,J,J,_,aq,?_,?_⟩
  .rw[eh,bn,aK];lia
  .rw[jm,gC (by rw[aR,f];rfl)];rfl
 .subst e;rw[rO,jZ Gc];exact k D a
inductive L8(vs:List V)(H:Hp)(Q:VK)(_:XK):Prop|m(t p:_)(_:vs=[.str<|S t,.int (p:Nat)])(_:t.length<=100000)(_:p<=t.length)(_:Q (.str<|S<|(t.drop p).takeWhile Ü) H)
def aah:∀{e:Nat},p<=e->e<=t.length->(∀i,p<=i->i<e->∃b,t[i]?=O b/\Ü b=true)->(∀b,t[e]?=O b->Ü b=false)->(t.drop p).takeWhile Ü=(t.drop p).take (e-p):=by
 intro e h1 h2 j k;let d:∀(n:Nat)(l:Ä),n<=l.length->(∀i,i<n->∃b,l[i]?=O b/\Ü b=true)->(∀b,l[n]?=O b->Ü b=false)->l.takeWhile Ü=l.take n:=by
  intro n;induction n with
  |zero=>
   intro l _ _ h;cases l with
   |nil=>rfl
   |cons b r=>let:=h b J;rw[oN,this];rfl
  |succ n m=>
   intro l f g a;cases l with
   |nil=>simp at f
   |cons b r=>
    obtain⟨v,e,o⟩:=g 0 Z;cases e;rw[oN,aj o,vf,m r (by simpa using f) (λi hi=>g (i+1) Z) λc q=>a c q]
 refine d (e-p) (t.drop p) (by rw[ib];lia) (λi hi=>?_) λb a=>?_
 .obtain⟨b,s,u⟩:=j (p+i) Z Z;exact⟨b,xQ▸s,u⟩
 .rw[xQ,show p+(e-p)=e by lia]at a;exact k b a
def aai:Ok P w K mg base 1 "stretch_at" ["text","place"] L8:=bh ["text","place","end"] T.Xj λH vs Q nd v h=>by
 obtain⟨t,p,rfl,x,n,k⟩:=h;have c:(S t).length<=sizeLine:=by rw[bK,bn];lia
 refine⟨_,az (ys 2 nd<|pv 1)<|az (qX sv (PW.pt<|tZ (yq CV (pv 2)<|eF (pN) J T.cS mT<|y1<|pv 0)<|tY<|yq wM (yi (pv 0)<|pv 2)<|cJ lh (bj T.Ar)<|bj T.EM) (bS (ua (i:=2) nd J (by first|exact Ĵ J|exact ī J) aG uc)))<|yr<|oh J0 (pv 0) (km<|pv 1)<|km<|pv 2,?_⟩;refine ?_;refine⟨λm d H'=>∃e,d=[O<|.str<|S t,O<|.int p,O<|.int (e:Nat)]/\H'=H/\p<=e/\e<=t.length/\(∀i,p<=i->i<e->∃b,t[i]?=O b/\Ü b=true)/\m=t.length-e,⟨_,p,J,J,aN _,n,λi h1 h2=>by lia,J⟩,?_⟩;rintro m d H' ⟨e,rfl,rfl,g,o,hw,rfl⟩;have a:(∀b,t[e]?=O b->Ü b=false)->Q (.str<|pZ (S t) (O p)<|O e) H':=λh=>aae t p e n o▸aah g o hw h▸k;refine⟨S t,J,c,?_⟩;rw[bK];refine dq (λh1=>?_) λh1=>?_
 .let h1:e<t.length:=by lia
  obtain⟨b,j⟩:∃b,t[e]?=O b:=⟨_,bL h1⟩;refine⟨S t,_,b.toNat,J,J,c,cb<|uQ j,_,_,J,J,gn,b.toNat,_,J,J,?_⟩;rw[iw,xk,L7];refine dq (λh2=>?_) λh2=>?_
  .refine⟨λd r=>∃l,d=[O<|.str<|S t,O<|.int p,O<|.int l]/\r=H'/\l=e+1,?_,_,J,_,_,J,J,e+1,?_,J,J⟩
   .rintro y r ⟨l,rfl,rfl,rfl⟩;refine⟨t.length-(e+1),Z,e+1,J,J,Z,h1,λi s z=>?_,J⟩;by_cases q:i=e
    .subst q;exact⟨b,j,h2⟩
    .exact hw i s Z
   .show[O _,O _,O<|V.int (e+1)]=_;rw[show(e+1)=((e+1):Int) by lia]
  .refine⟨_,J,_,J,S t,J,c,a λu f=>?_⟩;rw[j]at f;cases f;simpa using h2
 .refine aU ⟨_,J,_,J,S t,J,c,a λu f=>?_⟩;let:e<t.length:=(b9.mp f).1;exact absurd (bP Z) h1
inductive aaj(vs:List V)(H:Hp)(Q:VK)(_:XK):Prop|m(t p:_)(_:vs=[.str<|S t,.int (p:Nat)])(_:t.length<=100000)(_:p<t.length)(_:∀H',aa H H'->Q (.str<|S<|gj<|t.drop p) H')
def aak:Ok P w K mg base 2 "token_at" ["text","place"] aaj:=bh ["text","place","stretch"] T.Xk λH vs Q nd g h=>by
 obtain⟨t,p,rfl,j,m,k⟩:=h;have d:(S t).length<=sizeLine:=by rw[bK,bn];lia
 obtain⟨b,c⟩:∃b,t[p]?=O b:=⟨_,bL m⟩;have Β:t.drop p=b::t.drop (p+1):=by obtain⟨h1,h2⟩:=b9.mp c;rw[mQ h1,h2]
 refine⟨_,az (yw (PW.pt<|n9 (yq e_ (yi (pv 0)<|pv 1)<|bj T.LP)<|pB<|yq wM (yi (pv 0)<|pv 1)<|bj T.Xh)<|yr<|yi (pv 0)<|pv 1)<|az (yw (d_<|UV (pv 0)<|y2 (bj T.Au)<|pv 1)<|yr<|bj T.Au)<|az (ys 2 nd<|yc (aai T) g<|y2 (pv 0)<|pv 1)<|yr<|j_ (d_<|yc (xm T) g<|y1<|pv 2) (pv 2) cz,?_⟩;have c8:(decide (b=32)||Ą b)=true->Q (.str (S [b])) H:=λh=>by let:=k H<|aa.refl H;rw[Β,AD,aj h]at this;exact this
 refine⟨S t,_,b.toNat,J,J,d,cb<|uQ c,J,?_⟩;have e:decide (V.str (⟨#[b.toNat]⟩)=V.str (S [32]))=decide (b=32):=iC.mpr ⟨λz=>by
  injection z with z
  let:=gF (a:=[b]) z;simpa using this,λz=>by subst z;rfl⟩
 rw[e];have back:∀(h:¬(decide (b=32)||Ą b)=true),pE (y4 (tB<|sY K "str" (λx xs H Q=>c3 λa b i=>x=.str a/\xs=[.str b,.int i]/\Q (.bl<|ϛ a b i) H) (dD 0)<|dN (tC<|.str<|S [45,111])<|dN (dD 1) dF) (mr<|tC<|.str<|S [45,111]) yZ)
   (pE (t_ (rg L8 [] E0<|dN (dD 0)<|dN (dD 1) dF)<|fu 2)<|mr<|O8 (tB<|rg EY [] E0<|dN (dD 2) dF) (dD 2)<|tC<|.str (S [])) (ey Q) (L2.start ["text","place","stretch"] [.str<|S t,.int p]) H:=by
  intro h;refine⟨J,_,_,_,J,J,?_⟩;rw[aaf t [45,111] p Z];refine dq (λh2=>?_) λh2=>?_
  .let:=k H<|aa.refl H;rw[Β,AD,ai h,aj (Β▸h2)]at this;exact this
  .refine⟨t,p,J,j,Z,?_⟩;have tl:((t.drop p).takeWhile Ü).length<=100000:=by have h1:=OW (Gh (p:=Ü) (l:=t.drop p));rw[ib]at h1;lia
   refine⟨_,J,tl,λH1 n=>?_⟩;let:=k H1 n;rw[Β,AD,ai h,ai (Β▸h2),<-Β]at this;refine dq (λf=>?_) λf=>?_
   .rw[aj f]at this;exact this
   .rw[ai f]at this;exact this
 refine dq (λh1=>?_) λh1=>?_
 .refine ba ⟨S t,_,b.toNat,J,J,d,cb<|uQ c,c8 (by rw[h1];rfl)⟩
 .refine⟨S t,_,b.toNat,J,J,d,cb<|uQ c,b.toNat,_,J,J,?_⟩;rw[xk,aad];refine dq (λh2=>?_) λh2=>?_
  .exact⟨S t,_,b.toNat,J,J,d,cb<|uQ c,c8 (by rw[h2,OX])⟩
  .exact back (by intro z;rw[j3]at z;exact z.elim h1 h2)
def dg:ä->Ä
|.name a=>a
|.sign c=>[c]
|.arrow=>[45,111]
def aal(c)(r:Ä):(gj (c::r)=[]/\tk (c::r)=U)\/(gj (c::r)=[32]/\tk (c::r)=tk r)\/(∃x,dg x=gj (c::r)/\gj (c::r)≠[]/\gj (c::r)≠[32]/\(gj (c::r)).length<=(c::r).length/\tk (c::r)=(tk ((c::r).drop (gj (c::r)).length)).map λl=>x::l):=by
 rw[AD];by_cases h1:c=32
 .subst h1;exact .inr<|.inl ⟨J,J⟩
 by_cases h2:Ą c=true
 .rw[aj (by rw[h2,OX])];exact .inr<|.inr ⟨.sign c,J,Gc,by simpa using h1,Gc,ux r h2⟩
 rw[ai (by rw[bO h1,F3];exact h2)];by_cases a:c=45/\r.head? =O 111
 .obtain⟨rfl,a⟩:=a;match r,a with
  |_::s,a=>cases a;rw[aj (by rfl)];exact .inr<|.inr ⟨.arrow,J,Gc,Gc,Gc,uy s⟩
 rw[ai (by
  intro z;apply a;cases r with
  |nil=>exact absurd z Gc
  |cons d s=>
   let:c=45/\d=111:=by simpa using z
   exact⟨this.1,by rw[this.2];rfl⟩)]
 by_cases b:Ü c=true
 .let e:(c::r).takeWhile Ü=c::r.takeWhile isWord:=by rw[oN,aj b]
  let h:(r.takeWhile Ü).length<=r.length:=OW<|Gh _;let g:(c::r).drop (c::r.takeWhile Ü).length=r.dropWhile isWord:=by
   show r.drop (r.takeWhile Ü).length=_;conv=>lhs;rw[<-Gi (p:=Ü) (l:=r)]
   rw[List.drop_append_of_le_length<|Gi▸aN _];simp
  rw[e,uz b];by_cases f:Õ (c::r.takeWhile Ü)=true
  .rw[aj f,aj f];refine .inr<|.inr ⟨.name (c::r.takeWhile Ü),J,Gc,?_,by simp only[aJ];lia,by rw[g]⟩;intro z;injection z with z _
   exact h1 z
  .exact ai f▸ai f▸.inl ⟨J,J⟩
 .let e:(c::r).takeWhile Ü=[]:=by rw[oN,ai b]
  rw[e];exact .inl ⟨J,rF h1 h2 a b⟩
def kJ(x:ä):V:=.str<|S<|dg x
inductive aam(vs:List V)(H:Hp)(Q:VK)(_:XK):Prop|m(t:_)(_:vs=[.str<|S t])(_:t.length<=100000)(_:(tk t=U->∀H',aa H H'->Q .aQ H'))(_:∀l,tk t=O l->∀H' D,aa H H'->H D=U->H' D=O (.ae<|l.map kJ)->l.length<=t.length->Q (.ref D) H')
def aan:Ok P w K mg base 3 "tokens_of" ["text"] aam:=bh ["text","tokens","place","token"] T.Xl λH vs Q nd C h=>by
 obtain⟨t,rfl,E,kn,ks⟩:=h;have F:(S t).length<=sizeLine:=by rw[bK,bn];lia
 refine⟨_,az (ys 1 nd<|bH cW)<|az (ys 2 nd aG)<|az (qX sv (yq CV (pv 2)<|eF (pN) J T.cS mT<|y1<|pv 0)<|az (ys 3 nd<|yc (aak T) C<|y2 (pv 0)<|pv 2)<|az (yw (yq e_ (pv 3) cz)<|yr cH)<|az (yw (yq ki (pv 3)<|bj T.LP)<|bS<|yA (pv 1)<|pv 3) (bS (ua (i:=2) nd J (by first|exact Ĵ J|exact ī J) (eF (pN) J T.cS mT<|y1<|pv 3) uc)))<|yr<|pv 1,?_⟩;refine⟨cM _,λD n=>?_⟩;have G:aa H (ab H D (.ae [])):=aa.ab n;refine⟨λm k H'=>c3 λp done v=>k=[O<|.str<|S t,O<|.ref D,O<|.int (p:Nat),v]/\aa H H'/\H' D=O (.ae<|done.map kJ)/\p<=t.length/\done.length<=p/\tk t=(tk<|t.drop p).map (λl=>done++l)/\m=t.length-p,⟨_,0,[],U,J,G,aq,cM _,aN _,by rw[jb];cases tk t<;>rfl,J⟩,?_⟩;rintro m k H' ⟨p,done,v,rfl,u,y,aav,I,g,rfl⟩;refine⟨S t,J,F,?_⟩;rw[bK];refine dq (λh1=>?_) λh1=>?_
 .have h1:p<t.length:=by lia
  obtain⟨b,a8⟩:∃b,t[p]?=O b:=⟨_,bL h1⟩;have Β:t.drop p=b::t.drop (p+1):=by obtain⟨L,M⟩:=b9.mp a8;rw[mQ L,M]
  have q:(b::t.drop (p+1)).length=t.length-p:=by rw[<-Β,ib]
  refine⟨λk r=>c3 λd j v=>k=[O<|.str<|S t,O<|.ref D,O<|.int (d:Nat),v]/\aa H r/\r D=O (.ae<|j.map kJ)/\d<=t.length/\j.length<=d/\tk t=(tk<|t.drop d).map (λl=>j++l)/\p<d,?_,?_⟩
  .rintro X r ⟨d,j,N,rfl,a1,a2,a3,a4,a5,a6⟩;exact⟨t.length-d,Z,d,j,N,J,a1,a2,a3,a4,a5,J⟩
  refine⟨t,p,J,E,h1,λH1 A=>?_⟩;have gw:=u.trans A;have s:=A _ _ y;rw[Β];rw[Β]at g;refine⟨J,?_⟩;have a0:∀x,decide (V.str (S x)=V.str (ę ""))=decide (x=[]):=λx=>iC.mpr ⟨λz=>gF (by injection z),λz=>by subst z;rfl⟩;have B:∀x,decide (V.str (S x)=V.str (S [32]))=decide (x=[32]):=λx=>iC.mpr ⟨λz=>gF (by injection z),λz=>by subst z;rfl⟩;show if decide (V.str (S<|gj (b::t.drop (p+1)))=V.str (ę ""))=true then _ else _;rw[a0];rcases aal b (t.drop (p+1))with⟨f,e2⟩|⟨f,e2⟩|⟨x,ex,f,R,a7,e2⟩
  .rw[aj<|bP f];refine kn ?_ H1 gw;rw[g,e2];rfl
  .rw[ai (by rw[f];decide)];refine⟨J,?_⟩;show if(!decide (V.str (S<|gj (b::t.drop (p+1)))=V.str (S [32])))=true then _ else _;rw[B,f];refine aU ⟨_,J,S [32],J,gn,_,_,J,J,p+1,done,O<|.str<|S [32],?_,gw,s,h1,Z,?_,Z⟩
   .show[O _,O _,O<|V.int (p+_),O _]=_;rw[show(p+(((S [32]).length):Int))=((p+1:Nat):Int)from J]
   .rw[g,e2]
  .rw[ai (by rw[bO f];decide)];refine⟨J,?_⟩;show if(!decide (V.str (S<|gj (b::t.drop (p+1)))=V.str (S [32])))=true then _ else _;rw[B,bO R];have tl:(gj (b::t.drop (p+1))).length<=t.length-p:=q▸a7;have Y:0<(gj (b::t.drop (p+1))).length:=Bq.mpr f;refine ba ⟨.inl ⟨J,_,ao.of s⟩,D,_,_,J,J,s,by rw[aK,bn];lia,?_⟩;refine⟨_,J,S<|gj (b::t.drop (p+1)),J,by rw[bK,bn];lia,_,_,J,J,p+(gj (b::t.drop (p+1))).length,done++[x],O<|.str<|S<|gj (b::t.drop (p+1)),?_,?_,?_,Z,by simp only[bw,dP];lia,?_,Z⟩
   .rw[bK];show[O _,O _,O<|V.int (p+_),O _]=_;rw[show(p+((gj (b::t.drop (p+1))).length:Nat))=((p+(gj (b::t.drop (p+1))).length:Nat):Int) by lia]
   .intro c o e;exact au (bv e n)▸gw _ _ e
   .rw[aq,bU,oP];show _=O (HO.ae<|_++[V.str<|S<|dg x]);rw[ex]
   .rw[g,e2,<-Β,so];cases tk (t.drop<|p+(gj<|t.drop p).length)with
    |none=>rfl
    |some l=>simp
 .have:p=t.length:=by
   by_cases z:p<t.length
   .exact absurd (bP Z) h1
   .lia
  subst this;rw[mR]at g;refine(ks done (by rw[g];show O (done++[])=_;rw[jW]) H' D u n y I)
noncomputable def cF:aav->Ä
|.paren=>[40]
|.gs=>[126]
|.ofc=>[33]
|.whn=>[63]
|.two c _=>[c]
|.dU _=>[45,111]
def wF:aav->Option Â
|.two _ A|.dU A=>O A
|_=>U
def FV(H:Hp)(v:V):Option Â->Prop
|none=>v=.aQ
|some A=>∃a,v=.ref a/\bF H A a
inductive B7(H:Hp)(x:V)(w:aav):Prop|m(tp fv:_)(_:x=.ref tp)(_:H tp=O (.be [.str<|S<|cF w,fv]))(_:FV H fv (wF w))
def mH(H:Hp):List V->bQ->Prop
|[],[]=>True
|x::xs,w::ws=>B7 H x w/\mH H xs ws
|_,_=>False
def rf(wl:À)(fv:V):List (Ã×V):=[("waiting",.ref wl),("formula",fv)]
def lL:(rf wl fv).lookup ("waiting":Ã)=O (.ref wl):=rfl
def ot:(rf wl fv).lookup ("formula":Ã)=O fv:=rfl
inductive dz(CR:À)(H:Hp)(r wl:À)(st:dh):Prop|m(dx fv vs:_)(_:H r=O (.aO CR dx<|rf wl fv))(_:H wl=O (.ae vs.reverse))(_:mH H vs st.1)(_:FV H fv st.2)
def Kp(r wl:À)(H H':Hp):Prop:=∀b o,H b=O o->b≠r->b≠wl->H' b=O o
def Kp.refl(r wl:À)(H:Hp):Kp r wl H H:=λ_ _ e _ _=>e
def Kp.trans{r:À}(a:Kp r wl H H1)(b:Kp r wl H1 H2):Kp r wl H H2:=λc o e h1 h2=>b c o (a c o e h1 h2) h1 h2
def aa.kp{r:À}(s:aa H H'):Kp r wl H H':=λb o e _ _=>s b o e
def Kp.aT{r:À}(k:Kp r wl H H')(h1:H r=O (.aO CR dx fs))(h2:H wl=O (.ae xs)):fg H H':=λb o e z=>by
 refine k b o e (λq=>?_) λq=>?_
 .subst q;rw[h1]at e;cases e;exact z
 .subst q;rw[h2]at e;cases e;exact z
def FV.aT(s:fg H H'):∀{o:Option Â},FV H v o->FV H' v o
|none,h=>h
|some _,⟨a,e,h⟩=>⟨a,e,h.aT s⟩
def B7.aT{x:V}{w:aav}(s:fg H H')(h:B7 H x w):B7 H' x w:=let⟨tp,fv,e,a,hf⟩:=h;⟨tp,fv,e,s _ _ a dO,hf.aT s⟩
theorem mH.aT{H H':Hp}(s:fg H H'):∀{vs:List V}{S:bQ},mH H vs S->mH H' vs S
|[],[],_=>dO
|_::_,_::_,h=>⟨h.1.aT s,mH.aT s h.2⟩
|[],_::_,h|_::_,[],h=>h
theorem mH.len{H:Hp}:∀{vs:List V}{S:bQ},mH H vs S->vs.length=S.length
|[],[],_=>rfl
|_::_,_::_,h=>by simp[mH.len h.2]
|[],_::_,h|_::_,[],h=>h.elim
def cq:bQ->Ä
|[]=>[]
|w::_=>cF w
def aap{x:V}:gX (xs++[x]) (-1)=O x:=by
 unfold gX kY;rw[ai gn,aj (by rw[bw,dP];lia)];show(xs++[x])[(-1+(((xs++[x]).length):Int)).toNat]?=O x;rw[bw,dP,show(-1+((xs.length+1:Nat):Int)).toNat=xs.length by lia];simp
inductive aaq(CR:À)(vs:List V)(H:Hp)(Q:VK)(_:XK):Prop|m(r dx:_)(_:vs=[.ref r])(_:H r=O (.aO CR dx []))(_:∀H' wl,H wl=U->dz CR H' r wl ([],U)->(∀b o,H b=O o->b≠r->H' b=O o)->Q .aQ H')
def aar:qH P w K mg base 1 "Reader" CR ["self"] (aaq CR):=yC ["self"] T.Xn λH vs Q nd j h=>by
 obtain⟨r,dx,rfl,d,k⟩:=h;refine⟨_,az (yu (pv 0)<|bH cW)<|bS<|yu (pv 0) cH,?_⟩;let g:=T.nR "waiting" gn;let i:=T.nR "formula" gn;refine⟨cM _,λwl a=>?_⟩;let c:r≠wl:=bv d a;refine⟨CR,dx,_,by rw[au c];exact d,T.b7,g,by decide,?_⟩;refine⟨CR,dx,_,aq,T.b7,i,by show 1<1000;decide,?_⟩;refine k _ wl a ⟨dx,.aQ,[],aq,?_,dO,J⟩ λb o e f=>?_
 .rw[au<|cB c,au<|cB c,aq];rfl
 .rw[au f,au f,au<|bv e a];exact e
inductive EZ(CR:À)(vs:List V)(H:Hp)(Q:VK)(_:XK):Prop|m(r wl st w:_)(_:vs=[.ref r,.str<|S<|cF w])(_:dz CR H r wl st)(_:wF w=st.2)(_:st.1.length<=1000)(_:∀H',dz CR H' r wl (w::st.1,U)->Kp r wl H H'->Q .aQ H')
def E1:cX P w K mg base 1 CR "wait" ["self","token"] (EZ CR):=dB ["self","token"] T.Xs λH vs Q nd t h=>by
 obtain⟨r,wl,st,x,rfl,⟨dx,fv,vs,h1,h2,g,m⟩,n,u,k⟩:=h;refine⟨_,az (yA (yf<|pv 0)<|pL<|y2 (pv 1)<|yf<|pv 0)<|bS<|yu (pv 0) cH,?_⟩;have p:=T.nR "waiting" gn;have i:=T.nR "formula" gn;have j:r≠wl:=aY h1 h2 nofun;refine⟨CR,dx,_,_,h1,T.b7,p,lL,.inl ⟨J,_,ao.of h2⟩,CR,dx,_,_,h1,T.b7,i,ot,Ob,λtp a=>?_⟩;have c:aa H (ab H tp<|.be [.str<|S (cF x),fv]):=aa.ab a;refine⟨wl,_,_,J,J,c _ _ h2,by rw[BA,g.len,bn];lia,?_⟩;refine⟨CR,dx,_,by rw[au j];exact c _ _ h1,T.b7,i,Oc,?_⟩;have kp:Kp r wl H (ab (ab (ab H tp<|.be [.str<|S<|cF x,fv]) wl<|.ae<|vs.reverse++[.ref tp]) r<|.aO CR dx<|c_ "formula" .aQ (rf wl fv)):=λb o e q s=>au q▸au s▸c _ _ e;have l:=kp.aT h1 h2;have d:tp≠wl:=λz=>by subst z;rw[h2]at a;cases a
 have f:tp≠r:=λz=>by subst z;rw[h1]at a;cases a
 refine k _ ⟨dx,.aQ,.ref tp::vs,aq,?_,⟨⟨tp,fv,J,?_,?_⟩,g.aT l⟩,J⟩ kp
 .rw[au<|cB j,aq,jA]
 .rw[au f,au d,aq]
 .exact n▸m.aT l
inductive aas(CR:À)(vs:List V)(H:Hp)(Q:VK)(_:XK):Prop|m(r wl st:_)(_:vs=[.ref r])(_:dz CR H r wl st)(_:Q (.str<|S<|cq st.1) H)
def uR:cX P w K mg base 1 CR "last_waiting" ["self"] (aas CR):=dB ["self"] T.Xt λH vs Q nd d h=>by
 obtain⟨r,wl,st,rfl,⟨dx,fv,vs,h1,h2,a,e⟩,k⟩:=h;refine⟨_,yr<|j_ (zb (yf<|pv 0) λ_=>J) (yt (yl (yf<|pv 0)<|pJ pK aG) aG) cz,?_⟩;let b:=T.nR "waiting" gn;refine⟨CR,dx,_,_,h1,T.b7,b,lL,_,.inl ⟨_,ao.of h2,J⟩,?_⟩;match vs,st.1,a,k with
 |[],[],_,k=>exact k
 |x::xs,f::ws,a,k=>
  obtain⟨⟨tp,gv,rfl,c,_⟩,_⟩:=a;rw[jA]at h2⊢;let:(!(xs.reverse++[V.ref tp]).isEmpty)=true:=Gc;rw[this];exact ba ⟨CR,dx,_,_,h1,T.b7,b,lL,_,J,_,_,ao.of h2,aap,_,_,aV.of c,J,k⟩
def xo{G:Hp}{r:À}{x:V}{b}{d:Â}(h1:H r=O (.aO CR dx (rf wl fv)))(h2:H wl=O (.ae (xs.reverse++[x])))(g:mH H xs b)(s:aa (ab H wl (.ae xs.reverse)) G) (b8:bF G d a):dz CR (ab G r (.aO CR dx (c_ "formula" (.ref a) (rf wl fv)))) r wl (b,O d)/\Kp r wl H (ab G r (.aO CR dx (c_ "formula" (.ref a) (rf wl fv)))):=by
 have f:r≠wl:=aY h1 h2 nofun;have kp:Kp r wl H (ab G r<|.aO CR dx<|c_ "formula" (.ref a) (rf wl fv)):=λc o e h i=>au h▸s _ _ (by rw[au i];exact e);have j:G r=O (.aO CR dx (rf wl fv)):=s _ _<|au f▸h1;have Ι:fg G (ab G r<|.aO CR dx<|c_ "formula" (.ref a) (rf wl fv)):=λc o e z=>by rw[au];exact e;intro q;subst q;rw[j]at e;cases e;exact z
 refine⟨⟨dx,.ref a,xs,aq,?_,g.aT<|kp.aT h1 h2,a,J,b8.aT Ι⟩,kp⟩;rw[au<|cB f];exact s _ _ aq
def uS{w}{S}(h:eJ (w::S)):eJ S:=by
 cases w with
 |two c A=>exact h.2
 |_=>exact h
def xp{c}(h:ô c=true):c=42\/c=124\/c=38\/c=43:=by unfold ô at h;simpa only[j3,jV]using h
inductive L9(CR:À)(vs:List V)(H:Hp)(Q:VK)(_:XK):Prop|m(r wl S A n:_)(_:vs=[.ref r])(_:dz CR H r wl (S,O A))(_:aao n S A)(_:n<=40000)(_:eJ S)(_:∀H',dz CR H' r wl (lr<|dH S A)->Kp r wl H H'->Q .aQ H')
def L_:cX P w K mg base 5 CR "end_part" ["self"] (L9 CR):=by
 have⟨a1,a5,C⟩:=T.uM;refine dB ["self","token"] T.Xu λH vs Q nd I h=>?_;obtain⟨r,wl,S0,R,n,rfl,hR,bE,hn,aF,k⟩:=h;refine⟨_,bS<|qX sv (PW.pt<|n9 (yq e_ (yn (pv 0) T.b7 (uR T) I)<|bj T.xf)<|pB<|yq jJ (yn (pv 0) T.b7 (uR T) I)<|bj a5)<|az (ys 1 nd<|yt (li jz mV mW lm<|yf<|pv 0) aG)<|bS<|yu (pv 0)<|j_ (yq e_ (pv 1)<|bj T.xf) (yc (rL T) I<|y1<|yf<|pv 0)<|yc (Az T) I<|y2 (pv 1)<|yf (pv 0),?_⟩;have L:=T.nR "waiting" gn;have D:=T.nR "formula" gn;refine⟨λm a2 H'=>c3 λl d v=>a2=[O<|.ref r,v]/\dz CR H' r wl (l,O d)/\Kp r wl H H'/\dH l d=dH S0 R/\aao n l d/\eJ l/\m=l.length,⟨_,S0,R,U,J,hR,Kp.refl _ _ _,J,bE,aF,J⟩,?_⟩;rintro m a2 H' ⟨l,d,v,rfl,aav,kp,he,f,p,rfl⟩;have g:=aav;obtain⟨dx,fv,vs,h1,h2,i,a,rfl,M⟩:=aav;have N:r≠wl:=aY h1 h2 nofun;refine⟨dx,_,h1,J,r,wl,_,J,g,J,?_⟩;show if decide (V.str (S<|cq l)=V.str (S [126]))=true then _ else _;rw[fR];have b:dH l d=(l,d)->Q .aQ H':=λe=>by have:=k H';rw[<-he,e]at this;exact this g kp
 have other:¬cq l=[126]->¬cq l=[33]->¬cq l=[63]->dH l d=(l,d)->_:=λq1 q2 q3 e=>b e
 match l,vs,i,f,p,he,g,b,h2 with
 |[],[],_,_,_,_,g,b,h2=>rw[ai gn];refine⟨dx,_,h1,J,r,wl,_,J,g,a1,_,J,.inr<|C _,J,J,?_⟩;exact b J
 |.paren::j,x::xs,i,f,p,he,g,b,h2|.dU B::j,x::xs,i,f,p,he,g,b,h2=>refine aI (by simp[cq,cF]) ?_;refine⟨dx,_,h1,J,r,wl,_,J,g,a1,_,J,.inr<|C _,J,J,?_⟩;exact b J
 |.two c B::j,x::xs,i,f,p,he,g,b,h2=>
  have X:=xp p.1;rw[ai (by rcases X with rfl|rfl|rfl|rfl<;>simp[cq,cF])];refine⟨dx,_,h1,J,r,wl,_,J,g,a1,_,J,.inr<|C _,J,J,?_⟩;show if d8 (.str<|S [c]) [.str<|S [33],.str<|S [63]]=true then _ else _;rw[mG,ai (by rcases X with rfl|rfl|rfl|rfl<;>decide)];exact b J
 |.gs::j,x::xs,i,f,p,he,g,b,h2=>
  rw[aj (by simp[cq,cF])];refine gg λP0 p0=>?_;obtain⟨⟨tp,gv,rfl,t,Y⟩,i⟩:=i;refine p0 ?_;rw[jA]at h2;refine⟨λu s=>∃v,u=[O<|.ref r,v]/\dz CR s r wl (j,O<|Æ d)/\Kp r wl H' s,?_,?_⟩
  .rintro u s ⟨E,rfl,F,gM⟩;have q:=f.s;simp only[fc,d7,aS]at q;exact⟨j.length,Gc,j,Æ d,E,J,F,kp.trans gM,he,⟨q.2,by rw[gh];exact f.a,by have:=f.n;rw[fN];simp only[fV,wt]at this;lia⟩,uS p,J⟩
  refine⟨CR,dx,_,_,h1,T.b7,L,lL,.inl ⟨J,_,ao.of h2⟩,wl,_,_,J,J,h2,kH,_,_,aV.of (by rw[au<|aY t h2 nofun];exact t),J,?_⟩;rw[jQ];refine⟨J,?_⟩;have y:=(au (o:=.ae xs.reverse) N).trans h1;have G:fg H' (ab H' wl<|.ae xs.reverse):=λc o e z=>by rw[au];exact e;intro q;subst q;rw[h2]at e;cases e;exact z
  refine⟨CR,dx,_,_,y,T.b7,D,ot,d,a,J,M.aT G,by have:=f.n;lia,λa4 a3 A _ rep3=>?_⟩;refine⟨CR,dx,_,A _ _ y,T.b7,D,Oc,?_⟩;have nx:=xo h1 h2 i A rep3;exact⟨_,J,nx.1,nx.2⟩
 |.ofc::j,x::xs,i,f,p,he,g,b,h2=>
  rw[ai (by simp[cq,cF])];refine⟨dx,_,h1,J,r,wl,_,J,g,a1,_,J,.inr<|C _,J,J,?_⟩;obtain⟨⟨tp,gv,rfl,t,Y⟩,i⟩:=i;rw[jA]at h2;have q:=f.s;simp only[fc,d7,aS]at q;have a0:aao n j (.ofc d):=⟨q.2,f.a,by have:=f.n;simp only[fV,wt,Å]at this⊢;lia⟩;refine⟨λu s=>∃v,u=[O<|.ref r,v]/\dz CR s r wl (j,O<|.ofc d)/\Kp r wl H' s,?_,?_⟩
  .rintro u s ⟨E,rfl,F,gM⟩;exact⟨j.length,Gc,j,.ofc d,E,J,F,kp.trans gM,he,a0,uS p,J⟩
  refine⟨CR,dx,_,_,h1,T.b7,L,lL,.inl ⟨J,_,ao.of h2⟩,wl,_,_,J,J,h2,kH,_,_,aV.of (by rw[au<|aY t h2 nofun];exact t),J,?_⟩;rw[jQ];refine⟨J,?_⟩;have y:=(au (o:=.ae xs.reverse) N).trans h1;have G:fg H' (ab H' wl<|.ae xs.reverse):=λc o e z=>by rw[au];exact e;intro q;subst q;rw[h2]at e;cases e;exact z
  refine⟨CR,dx,_,_,y,T.b7,D,ot,33,d,a,J,.inl J,M.aT G,by have:=f.n;lia,λa4 a3 A _ rep3=>?_⟩;refine⟨CR,dx,_,A _ _ y,T.b7,D,Oc,?_⟩;have rep3:bF a4 (.ofc d) a3:=rep3;have nx:=xo h1 h2 i A rep3;exact⟨_,J,nx.1,nx.2⟩
 |.whn::j,x::xs,i,f,p,he,g,b,h2=>
  rw[ai (by simp[cq,cF])];refine⟨dx,_,h1,J,r,wl,_,J,g,a1,_,J,.inr<|C _,J,J,?_⟩;obtain⟨⟨tp,gv,rfl,t,Y⟩,i⟩:=i;rw[jA]at h2;have q:=f.s;simp only[fc,d7,aS]at q;have a0:aao n j (.whn d):=⟨q.2,f.a,by have:=f.n;simp only[fV,wt,Å]at this⊢;lia⟩;refine⟨λu s=>∃v,u=[O<|.ref r,v]/\dz CR s r wl (j,O<|.whn d)/\Kp r wl H' s,?_,?_⟩
  .rintro u s ⟨E,rfl,F,gM⟩;exact⟨j.length,Gc,j,.whn d,E,J,F,kp.trans gM,he,a0,uS p,J⟩
  refine⟨CR,dx,_,_,h1,T.b7,L,lL,.inl ⟨J,_,ao.of h2⟩,wl,_,_,J,J,h2,kH,_,_,aV.of (by rw[au<|aY t h2 nofun];exact t),J,?_⟩;rw[jQ];refine⟨J,?_⟩;have y:=(au (o:=.ae xs.reverse) N).trans h1;have G:fg H' (ab H' wl<|.ae xs.reverse):=λc o e z=>by rw[au];exact e;intro q;subst q;rw[h2]at e;cases e;exact z
  refine⟨CR,dx,_,_,y,T.b7,D,ot,63,d,a,J,.inr J,M.aT G,by have:=f.n;lia,λa4 a3 A _ rep3=>?_⟩;refine⟨CR,dx,_,A _ _ y,T.b7,D,Oc,?_⟩;have rep3:bF a4 (.whn d) a3:=rep3;have nx:=xo h1 h2 i A rep3;exact⟨_,J,nx.1,nx.2⟩
def E2(h2:H wl=O (.ae xs)):fg H (ab H wl o):=λc u e z=>by rw[au];exact e;intro q;subst q;rw[h2]at e;cases e;exact z
theorem AF:∀{S:bQ}{A:Â},eJ S->eJ (fM S A).1
|[],_,h|.gs::S,A,h|.ofc::S,A,h|.whn::S,A,h|.paren::S,A,h|.dU _::S,A,h=>h
|.two c B::S,A,h=>AF (S:=S) (A:=two c B A) h.2
theorem E3:∀{S:bQ}{A:Â},eJ S->eJ (rD S A).1
|[],_,h|.gs::S,A,h|.ofc::S,A,h|.whn::S,A,h|.paren::S,A,h|.two _ _::S,A,h=>h
|.dU B::S,A,h=>E3 (S:=S) (A:=.par (Æ B) A) h
inductive aat(CR:À)(vs:List V)(H:Hp)(Q:VK)(_:XK):Prop|m(r wl S A n:_)(_:vs=[.ref r])(_:dz CR H r wl (S,O A))(_:aao n S A)(_:n<=40000)(_:eJ S)(_:∀H',dz CR H' r wl (lr<|fM S A)->Kp r wl H H'->Q .aQ H')
def Ma:cX P w K mg base 5 CR "end_chain" ["self"] (aat CR):=by
 have⟨a2,M,N⟩:=T.rK;refine dB ["self","pair"] T.Xv λH vs Q nd t h=>?_;obtain⟨r,wl,S0,u,n,rfl,a0,R,hn,aF,k⟩:=h;refine⟨_,bS<|qX sv (yq jJ (yn (pv 0) T.b7 (uR T) t)<|bj M)<|az (ys 1 nd<|li jz mV mW lm<|yf<|pv 0)<|bS<|yu (pv 0)<|yc (xh T) t<|y3 (yt (pv 1) aG) (yt (pv 1) aG)<|yf<|pv 0,?_⟩;have a1:=T.nR "waiting" gn;have y:=T.nR "formula" gn;refine⟨λm z H'=>c3 λf d v=>z=[O<|.ref r,v]/\dz CR H' r wl (f,O d)/\Kp r wl H H'/\fM f d=fM S0 u/\aao n f d/\eJ f/\m=f.length,⟨_,S0,u,U,J,a0,Kp.refl _ _ _,J,R,aF,J⟩,?_⟩;rintro m z H' ⟨f,d,v,rfl,A,kp,he,g,i,rfl⟩;have j:=A;obtain⟨dx,fv,vs,h1,h2,l,a,rfl,aav⟩:=A;have X:r≠wl:=aY h1 h2 nofun;refine⟨dx,_,h1,J,r,wl,_,J,j,a2,_,J,.inr<|N _,J,J,?_⟩;show if d8 (.str<|S<|cq f) [.str<|S [42],.str<|S [124],.str<|S [38],.str<|S [43]]=true then _ else _;rw[on];have b:fM f d=(f,d)->Q .aQ H':=λe=>by let:=k H';rw[<-he,e]at this;exact this j kp
 match f,vs,l,g,i,he,j,b,h2 with
 |[],[],_,_,_,_,j,b,h2|.paren::p,x::xs,l,g,i,he,j,b,h2|.dU B::p,x::xs,l,g,i,he,j,b,h2|.gs::p,x::xs,l,g,i,he,j,b,h2|.ofc::p,x::xs,l,g,i,he,j,b,h2|.whn::p,x::xs,l,g,i,he,j,b,h2=>refine aI (by simp[cq,cF,bW]) ?_;exact b J
 |.two c B::p,x::xs,l,g,i,he,j,b,h2=>
  have Y:=xp i.1;rw[aj (by rcases Y with rfl|rfl|rfl|rfl<;>simp[cq,cF,bW])];refine gg λP0 p0=>?_;obtain⟨⟨tp,gv,rfl,C,a5,rfl,hB⟩,l⟩:=l;refine p0 ?_;rw[jA]at h2;have q:=g.s;simp only[fc,d7,aS]at q;have D:aao n p (two c B d):=⟨q.2,by rw[zW,aS];exact⟨q.1,g.a⟩,by let:=g.n;rw[zV];simp only[fV,wt]at this;lia⟩;refine⟨λE s=>∃v,E=[O<|.ref r,v]/\dz CR s r wl (p,O<|two c B d)/\Kp r wl H' s,?_,?_⟩
  .rintro E s ⟨v',rfl,iM,gM⟩;exact⟨p.length,Gc,p,two c B d,v',J,iM,kp.trans gM,he,D,uS i,J⟩
  refine⟨CR,dx,_,_,h1,T.b7,a1,lL,.inl ⟨J,_,ao.of h2⟩,wl,_,_,J,J,h2,kH,?_⟩;rw[jQ];have F:=(au (o:=.ae xs.reverse)<|aY C h2 nofun).trans C;have G:=(au (o:=.ae xs.reverse) X).trans h1;have I:fg H' (ab H' wl<|.ae xs.reverse):=E2 h2;have a4:Å B<=100000/\Å d<=100000:=by let:=D.n;rw[zV]at this;lia
  refine⟨_,_,aV.of F,J,_,_,aV.of F,J,CR,dx,_,_,G,T.b7,y,ot,c,B,d,a5,a,J,i.1,hB.aT I,aav.aT I,a4.1,a4.2,λH3 a3 L _ rep3=>?_⟩;refine⟨CR,dx,_,L _ _ G,T.b7,y,Oc,?_⟩;have nx:=xo h1 h2 l L rep3;exact⟨_,J,nx.1,nx.2⟩
inductive aau(CR:À)(vs:List V)(H:Hp)(Q:VK)(_:XK):Prop|m(r wl S A n:_)(_:vs=[.ref r])(_:dz CR H r wl (S,O A))(_:aao n S A)(_:n<=40000)(_:eJ S)(_:∀H',dz CR H' r wl (lr<|fG S A)->Kp r wl H H'->Q .aQ H')
def Mb:cX P w K mg base 6 CR "end_formula" ["self"] (aau CR):=dB ["self","before"] T.Xw λH vs Q nd p h=>by
 obtain⟨r,wl,S0,s,n,rfl,A,C,a0,aF,k⟩:=h;refine⟨_,az (gN<|yn (pv 0) T.b7 (Ma T) p)<|bS<|qX sv (yq e_ (yn (pv 0) T.b7 (uR T) p)<|bj T.Au)<|az (ys 1 nd<|yt (li jz mV mW lm<|yf<|pv 0) aG)<|bS<|yu (pv 0)<|yc (xh T) p<|y3 (bj T.LQ) (yc (rL T) p<|y1 (pv 1))<|yf (pv 0),?_⟩;have R:=T.nR "waiting" gn;have D:=T.nR "formula" gn;obtain⟨a1,GW,BX,aav,B9,PL,me⟩:=id A;refine⟨a1,_,aav,J,r,wl,S0,s,n,J,A,C,a0,aF,λH1 X jF=>?_⟩;refine⟨λm E H'=>c3 λj d v=>E=[O<|.ref r,v]/\dz CR H' r wl (j,O d)/\Kp r wl H H'/\rD j d=fG S0 s/\aao n j d/\m=j.length,⟨_,(fM S0 s).1,(fM S0 s).2,U,J,X,jF,J,C.chain,J⟩,?_⟩;rintro m E H' ⟨j,d,v,rfl,F,kp,he,f,rfl⟩;have g:=F;obtain⟨dx,fv,vs,h1,h2,i,a,rfl,Y⟩:=F;have a4:r≠wl:=aY h1 h2 nofun;refine⟨dx,_,h1,J,r,wl,_,J,g,J,?_⟩;refine am (fR _ _) ?_;have b:rD j d=(j,d)->Q .aQ H':=λe=>by let:=k H';rw[<-he,e]at this;exact this g kp
 match j,vs,i,f,he,g,b,h2 with
 |[],[],_,_,_,g,b,h2|.paren::l,x::xs,i,f,he,g,b,h2|.two c B::l,x::xs,i,f,he,g,b,h2|.gs::l,x::xs,i,f,he,g,b,h2|.ofc::l,x::xs,i,f,he,g,b,h2|.whn::l,x::xs,i,f,he,g,b,h2=>rw[ai (by simp[cq,cF,bW])];exact b J
 |.dU B::l,x::xs,i,f,he,g,b,h2=>
  rw[aj (by simp[cq,cF,bW])];obtain⟨⟨tp,gv,rfl,G,aB,rfl,hB⟩,i⟩:=i;rw[jA]at h2;have q:=f.s;simp only[fc,d7,aS]at q;have I:aao n l (.par (Æ B) d):=⟨q.2,by simp only[aE,gh,aS];exact⟨q.1,f.a⟩,by let:=f.n;simp only[Å,fN];simp only[fV,wt]at this;lia⟩;refine⟨λa2 u=>∃v,a2=[O<|.ref r,v]/\dz CR u r wl (l,O<|.par (Æ B) d)/\Kp r wl H' u,?_,?_⟩
  .rintro a2 u ⟨v',rfl,iM,gM⟩;exact⟨l.length,Gc,l,.par (Æ B) d,v',J,iM,kp.trans gM,he,I,J⟩
  have nA:=(au (o:=.ae xs.reverse)<|aY G h2 nofun).trans G;have L:=(au (o:=.ae xs.reverse) a4).trans h1;have M:fg H' (ab H' wl<|.ae xs.reverse):=E2 h2;refine⟨CR,dx,_,_,h1,T.b7,R,lL,.inl ⟨J,_,ao.of h2⟩,wl,_,_,J,J,h2,kH,_,_,aV.of (jQ▸nA),J,?_⟩;rw[jQ];have y:Å B<=100000/\Å d<=100000:=by let:=I.n;simp only[Å,fN]at this;lia
  refine⟨B,aB,J,hB.aT M,y.1,λH2 d2 t _ z=>?_⟩;refine⟨CR,dx,_,_,t _ _ L,T.b7,D,ot,124,Æ B,d,d2,a,J,J,z,(Y.aT M).same t,by rw[fN];exact y.1,y.2,λH3 a3 N _ rep3=>?_⟩;refine⟨CR,dx,_,N _ _<|t _ _ L,T.b7,D,Oc,?_⟩;have rep3:bF H3 (.par (Æ B) d) a3:=rep3;have nx:=xo h1 h2 i (t.trans N) rep3;exact⟨_,J,nx.1,nx.2⟩
inductive aaw(CR:À)(vs:List V)(H:Hp)(Q:VK)(_:XK):Prop|m(r wl S A n:_)(_:vs=[.ref r])(_:dz CR H r wl (S,O A))(_:aao n S A)(_:n<=40000)(_:eJ S)(_:(p7 (fG S A)=U->∀H',Kp r wl H H'->Q (.bl false) H'))(_:∀y,p7 (fG S A)=O y->∀H',dz CR H' r wl y->Kp r wl H H'->Q (.bl true) H')
def aax:cX P w K mg base 7 CR "end_bracket" ["self"] (aaw CR):=dB ["self"] T.Xx λH vs Q nd k h=>by
 obtain⟨r,wl,S0,l,n,rfl,t,u,v,aF,kn,ks⟩:=h;refine⟨_,az (gN<|yn (pv 0) T.b7 (Mb T) k)<|az (yw (yq ki (yn (pv 0) T.b7 (uR T) k) cz)<|yr fK)<|az (gN<|li jz mV mW lm<|yf<|pv 0)<|az (gN<|yn (pv 0) T.b7 (L_ T) k)<|yr fK,?_⟩;have C:=T.nR "waiting" gn;obtain⟨D,a1,aav,E,X,Y,a3⟩:=id t;refine⟨D,_,E,J,r,wl,S0,l,n,J,t,u,v,aF,λH1 m jF=>?_⟩;have f:=u.B5;have g:eJ (fG S0 l).1:=E3<|AF aF;generalize fG S0 l=z at m f g kn ks;obtain⟨p,j⟩:=z;have s:=m;obtain⟨dx,fv,vs,h1,h2,i,F⟩:=m;refine⟨dx,_,h1,J,r,wl,_,J,s,J,?_⟩;show if(!decide (V.str (S<|cq p)=V.str (S [40])))=true then _ else _;rw[fR];have a:p7 (p,j)=U->Q (.bl false) H1:=λe=>kn e H1 jF
 match p,vs,i,f,g,kn,ks,a,h2 with
 |[],[],_,_,_,_,_,a,_=>refine aC (by simp[cq,cF,bW]) ?_;exact a J
 |.two c B::d,x::xs,_,_,g,_,_,a,_=>rw[aj (by rcases xp g.1 with rfl|rfl|rfl|rfl<;>simp[cq,cF,bW])];exact a J
 |.gs::d,x::xs,_,_,_,_,_,a,_|.ofc::d,x::xs,_,_,_,_,_,a,_|.whn::d,x::xs,_,_,_,_,_,a,_|.dU B::d,x::xs,_,_,_,_,_,a,_=>refine aC (by simp[cq,cF,bW]) ?_;exact a J
 |.paren::d,x::xs,i,f,g,_,ks,_,h2=>
  refine aI (by simp[cq,cF,bW]) ?_;obtain⟨G,i⟩:=i;rw[jA]at h2;have I:r≠wl:=aY h1 h2 nofun;refine⟨CR,dx,_,_,h1,T.b7,C,lL,.inl ⟨J,_,ao.of h2⟩,wl,_,_,J,J,h2,kH,?_⟩;rw[jQ];have y:=(au (o:=.ae xs.reverse) I).trans h1;have A:fg H1 (ab H1 wl<|.ae xs.reverse):=E2 h2;have a2:dz CR (ab H1 wl<|.ae xs.reverse) r wl (d,O j):=⟨dx,fv,xs,y,aq,i.aT A,F.aT A⟩;have gM:Kp r wl H1 (ab H1 wl<|.ae xs.reverse):=λb o e q1 L=>au L▸e;have q:=f.s;simp only[fc,d7,aS]at q;have M:aao n d j:=⟨q.2,f.a,by have:=f.n;simp only[fV,wt]at this;lia⟩;refine⟨dx,_,y,J,r,wl,d,j,n,J,a2,M,v,uS g,λN a0 R=>?_⟩;exact ks _ J N a0<|jF.trans<|gM.trans R
inductive aaz(CR:À)(vs:List V)(H:Hp)(Q:VK)(_:XK):Prop|m(r wl st n:_)(_:vs=[.ref r])(_:dz CR H r wl st)(_:(∀A,st.2=O A->aao n st.1 A))(_:n<=40000)(_:eJ st.1)(_:(acN st=U->∀H',Kp r wl H H'->Q .aQ H'))(_:∀B,acN st=O B->∀H' a,bF H' B a->Kp r wl H H'->Q (.ref a) H')
def aaA:cX P w K mg base 7 CR "whole" ["self"] (aaz CR):=dB ["self"] T.Xy λH vs Q nd k h=>by
 obtain⟨r,wl,⟨S0,o⟩,n,rfl,d,l,m,aF,kn,ks⟩:=h;refine⟨_,az (yw (yq kj (yf<|pv 0) cH)<|yr cH)<|az (gN<|yn (pv 0) T.b7 (Mb T) k)<|yr<|j_ (zb (yf<|pv 0) λ_=>J) cH<|yf<|pv 0,?_⟩;have p:=T.nR "waiting" gn;have e:=T.nR "formula" gn;obtain⟨f,q,y,g,A,C,i⟩:=id d;refine⟨CR,f,_,_,g,T.b7,e,ot,J,?_⟩;cases o with
 |none=>have:q=.aQ:=i;subst this;exact kn J H<|Kp.refl _ _ _
 |some c=>
  obtain⟨D,rfl,_⟩:=i;refine⟨f,_,g,J,r,wl,S0,c,n,J,d,l c J,m,aF,λH1 j jF=>?_⟩;have b:acN (S0,O c)=(match fG S0 c with |([],B)=>O B|_=>U):=J;generalize fG S0 c=z at j b;refine gg λP0 p0=>?_;obtain⟨s,t⟩:=z;obtain⟨dx,fv,vs,h1,h2,u,a,rfl,v⟩:=j;refine p0 ?_;refine⟨CR,dx,_,_,h1,T.b7,p,lL,_,.inl ⟨_,ao.of h2,J⟩,?_⟩;match s,vs,u,b with
  |[],[],_,b=>exact⟨CR,dx,_,_,h1,T.b7,e,ot,ks t b H1 a v jF⟩
  |E::F,x::xs,_,b=>
   have:(!(x::xs).reverse.isEmpty)=true:=Gc;rw[this];exact kn b H1 jF
def mI:ä->Bool
|.name a=>Õ a
|.sign c=>Ą c
|.arrow=>true
def aaB{x}(h:mI x=true):tw x=true:=by
 cases x with
 |name a=>exact h
 |sign c|arrow=>rfl
theorem xq:∀(n:Nat)(t:Ä)(l:List ä),t.length<=n->tk t=O l->l.all mI=true
|_,[]=>λl _ h=>by rw[DT]at h;cases h;rfl
|0,c::r=>λ_ h _=>by simp at h
|n+1,c::r=>λl b h=>by
 simp only[aJ]at b;by_cases h1:c=32
 .subst h1;rw[wR]at h;exact xq n r l Z h
 by_cases h2:Ą c=true
 .rw[ux r h2]at h;cases e:tk r with
  |none=>rw[e]at h;exact eG h
  |some m=>rw[e]at h;cases h;let:=xq n r m Z e;simp[mI,this,h2]
 by_cases d:Ü c=true
 .rw[uz d]at h;split at h
  next f=>
   cases e:tk (r.dropWhile Ü)with
   |none=>rw[e]at h;exact eG h
   |some m=>rw[e]at h;cases h;let g:(r.dropWhile Ü).length<=r.length:=vj (sy _);let:=xq n _ m Z e;simp[mI,this,f]
  .cases h
 by_cases a:c=45/\r.head? =O 111
 .obtain⟨rfl,a⟩:=a;match r,a with
  |_::s,a=>
   cases a;rw[uy]at h;cases e:tk s with
   |none=>rw[e]at h;exact eG h
   |some m=>rw[e]at h;cases h;simp only[aJ]at b;let:=xq n s m Z e;simp[mI,this]
 .rw[rF h1 h2 a d]at h;exact eG h
def aaC{c}(h:Ą c=true):Õ [c]=false:=by
 let:∀b,(!(Ą b&&Õ [b]))=true:=λb=>rN (p:=λb=>!(Ą b&&Õ [b])) (q:=λ_=>true) OH b;let:=this c;rw[h,je]at this;simpa using this
def Mc{a y:Ä}(h:Õ a=true)(b:Õ y=false):decide (a=y)=false:=bO λz=>by subst z;rw[h]at b;cases b
inductive aaD(CR:À)(vs:List V)(H:Hp)(Q:VK)(_:XK):Prop|m(r wl S' A c:_)(_:vs=[.ref r,.str<|S [c]])(_:dz CR H r wl (S',O A))(_:S'.length<=1000)(_:ô c=true)(_:eJ S')(_:(mD S' A c=U->Q (.bl false) H))(_:∀y,mD S' A c=O y->∀H',dz CR H' r wl y->Kp r wl H H'->Q (.bl true) H')
def aaE:cX P w K mg base 2 CR "lengthen_chain" ["self","sign"] (aaD CR):=by
 obtain⟨a2,j,k⟩:=T.rK;refine dB ["self","sign","last"] T.Xr λH vs Q nd g h=>?_;obtain⟨r,wl,S0,b,c,rfl,f,l,n,aF,kn,ks⟩:=h;refine⟨_,az (ys 2 nd<|yn (pv 0) T.b7 (uR T) g)<|az (yw (PW.pt<|tZ (yq jJ (pv 2)<|bj j)<|tY<|yq ki (pv 2)<|pv 1)<|yr fK)<|az (gN<|ym (pv 0) T.b7 (E1 T) g<|y1<|pv 1)<|yr fK,?_⟩;obtain⟨dx,fv,vs,h1,h2,o,p⟩:=id f;refine⟨dx,_,h1,J,r,wl,_,J,f,?_⟩;let go:mD S0 b c=O (.two c b::S0,U)->pE (we<|oa CR "wait" (EZ CR) [] E0 (dD 0)<|dN (dD 1) dF) (mr<|tC<|.bl true) (ey Q) [O<|.ref r,O<|.str<|S [c],O<|.str<|S (cq S0)] H:=λe=>⟨dx,_,h1,J,r,wl,(S0,O b),.two c b,J,f,J,l,λH' m kp=>ks _ e H' m kp⟩
 refine⟨a2,_,J,.inr<|k _,J,J,?_⟩;show if d8 (.str<|S<|cq S0) [.str<|S [42],.str<|S [124],.str<|S [38],.str<|S [43]]=true then _ else _;rw[on];match S0,aF,kn,ks,go with
 |[],_,_,_,go|.paren::a,_,_,_,go|.gs::a,_,_,_,go|.ofc::a,_,_,_,go|.whn::a,_,_,_,go|.dU B::a,_,_,_,go=>refine aI (by simp[cq,cF,bW]) ?_;exact aU<|go J
 |.two e B::a,aF,kn,_,go=>
  rw[aj (by rcases xp aF.1 with rfl|rfl|rfl|rfl<;>simp[cq,cF,bW])];refine⟨J,?_⟩;show if(!decide (V.str (S [e])=V.str (S [c])))=true then _ else _;rw[fR];let i:mD (.two e B::a) b c=if e=c then O (.two c b::.two e B::a,U)else none:=J;by_cases d:e=c
  .rw[ai (by simp[d])];exact go (by rw[i,aj d])
  .rw[aj (by simp[d])];exact kn (by rw[i,ai d])
def AG(CR:À)(r wl:À)(H:Hp)(o:Option dh)(Q:VK):Prop:=(o=U->∀H',Kp r wl H H'->Q (.bl false) H')/\∀y,o=O y->∀H',dz CR H' r wl y->Kp r wl H H'->Q (.bl true) H'
inductive aaF(CR:À)(vs:List V)(H:Hp)(Q:VK)(_:XK):Prop|m(r wl S' x n:_)(_:vs=[.ref r,kJ x])(_:dz CR H r wl (S',U))(_:S'.length<=1000)(_:mI x=true)(_:tz n (S',U))(_:n+1<=40000)(_:eJ S')(_:AG CR r wl H (mC S' x) Q)
def aaG:cX P w K mg base 6 CR "begin_part" ["self","token"] (aaF CR):=by
 obtain⟨a1,C,D⟩:=T.uM;refine dB ["self","token"] T.Xp λH vs Q nd l h=>?_;obtain⟨r,wl,S0,x,n,rfl,s,E,d,t,F,aF,kn,ks⟩:=h;refine⟨_,az (yw (PW.pt<|n9 (yq e_ (pv 1) cz)<|n9 (yq e_ (pv 1)<|bj T.xf)<|pB<|yq jJ (pv 1)<|bj C)<|az (gN<|ym (pv 0) T.b7 (E1 T) l<|y1<|pv 1)<|yr fK)<|az (yw (gy<|d_<|yc (xm T) l<|y1<|pv 1)<|yr fK)<|az (yu (pv 0)<|yc (ER T) l<|y1<|pv 1)<|az (gN<|yn (pv 0) T.b7 (L_ T) l)<|yr fK,?_⟩;have G:=T.nR "formula" gn;obtain⟨dx,fv,vs,h1,h2,I,h4⟩:=id s;have go:∀u,cF u=dg x->wF u=U->mC S0 x=O (u::S0,U)->pE (we<|oa CR "wait" (EZ CR) [] E0 (dD 0)<|dN (dD 1) dF) (mr<|tC<|.bl true) (ey Q) [O<|.ref r,O (kJ x)] H:=λu a3 e2 L=>
  ⟨dx,_,h1,J,r,wl,(S0,U),u,by rw[a3];rfl,s,e2,E,λH' M kp=>ks _ L H' M kp⟩
 refine⟨J,?_⟩;show if decide (V.str (S<|dg x)=V.str (S [40]))=true then _ else _;rw[fR];have cI:∀(h:¬dg x=[40])(h':¬dg x=[126])(pQ:¬dg x=[33])(N:¬dg x=[63]),(Õ (dg x)=false->mC S0 x=U)->(∀a,x=.name a->True)->pE (y4 (HM<|tB<|rg EY [] E0<|dN (dD 1) dF) (mr<|tC<|.bl false) yZ) (pE (C0 K (dD 0) (rg (L3) [] E0<|dN (dD 1) dF) "formula")<|pE (we<|oa CR "end_part" (L9 CR) [] E0 (dD 0) dF)<|mr<|tC<|.bl true)
    (ey Q) [O<|.ref r,O (kJ x)] H:=by
  intro _ _ _ _ a0 _;have R:(dg x).length<=100000:=by
   cases x with
   |name a=>have d:Õ a=true:=d;unfold Õ at d;simp only[aS,du]at d;exact d5 d.2.1 gn
   |sign c=>show 1<=100000;decide
   |arrow=>show 2<=100000;decide
  refine⟨dg x,J,R,λH1 v=>?_⟩;cases f:Õ (dg x)with
  |false=>exact kn (a0 f) H1<|aa.kp v
  |true=>
   obtain⟨a,rfl⟩:∃a,x=.name a:=by
    cases x with
    |name a=>exact⟨a,J⟩
    |sign c=>let:=aaC d;rw[show dg (.sign c)=[c]from J,this]at f;cases f
    |arrow=>exact absurd f gn
   refine⟨a,J,f,λH2 p a2 _ b8=>?_⟩;have m:=v.trans a2;have y:=m _ _ h1;have A:=m _ _ h2;have X:r≠wl:=aY h1 h2 nofun;refine⟨CR,dx,_,y,T.b7,G,Oc,?_⟩;have gM:Kp r wl H2 (ab H2 r<|.aO CR dx<|c_ "formula" (.ref p) (rf wl fv)):=λb o e q B=>au q▸e;have eC:=gM.aT y A;have Y:dz CR (ab H2 r<|.aO CR dx<|c_ "formula" (.ref p)<|rf wl fv) r wl (S0,O<|.atom false a):=
    ⟨dx,.ref p,vs,aq,au (cB X)▸A,(I.aT<|aa.aT m).aT eC,p,J,b8.aT eC⟩
   have a4:aao (n+1) S0 (.atom false a):=⟨t.1,d,by let:=t.2;show fV S0+1<=n+1;lia⟩;refine⟨dx,_,aq,J,r,wl,S0,.atom false a,n+1,J,Y,a4,F,aF,λH3 tH nH=>?_⟩;exact ks _ J H3 tH<|(aa.kp m).trans<|gM.trans nH
 by_cases g:dg x=[40]
 .rw[aj (by rw[g];decide)];cases x with
  |name a=>have d:Õ a=true:=d;rw[show a=[40]from g]at d;exact absurd d gn
  |arrow=>exact absurd g gn
  |sign c=>
   obtain rfl:c=40:=by simpa[dg]using g
   exact go .paren J J J
 rw[ai (by simpa using g)];refine⟨J,?_⟩;refine am (fR _ _) ?_;by_cases i:dg x=[126]
 .rw[aj (by rw[i];decide)];cases x with
  |name a=>have d:Õ a=true:=d;rw[show a=[126]from i]at d;exact absurd d gn
  |arrow=>exact absurd i gn
  |sign c=>
   obtain rfl:c=126:=by simpa[dg]using i
   exact go .gs J J J
 rw[ai (by simpa using i)];refine⟨a1,_,J,.inr<|D _,J,J,?_⟩;refine am (mG _) ?_;by_cases j:dg x=[33]
 .rw[aj (by rw[j];decide)];cases x with
  |name a=>have d:Õ a=true:=d;rw[show a=[33]from j]at d;exact absurd d gn
  |arrow=>exact absurd j gn
  |sign c=>
   obtain rfl:c=33:=by simpa[dg]using j
   exact go .ofc J J J
 by_cases k:dg x=[63]
 .rw[aj (by rw[k];decide)];cases x with
  |name a=>have d:Õ a=true:=d;rw[show a=[63]from k]at d;exact absurd d gn
  |arrow=>exact absurd k gn
  |sign c=>
   obtain rfl:c=63:=by simpa[dg]using k
   exact go .whn J J J
 rw[ai (by simp[gY,j,k])];refine cI g i j k (λf=>?_) λ_ _=>dO;cases x with
 |name a=>have d:Õ a=true:=d;rw[show Õ a=false from f]at d;cases d
 |arrow=>rfl
 |sign c=>
  have q:¬c=40:=λz=>g (by rw[z];rfl);have B:¬c=126:=λz=>i (by rw[z];rfl);have q3:¬c=33:=λz=>j (by rw[z];rfl);have q4:¬c=63:=λz=>k (by rw[z];rfl);show(if c=40 then _ else _)=U;rw[ai q,ai B,ai q3,ai q4]
inductive aaH(CR:À)(vs:List V)(H:Hp)(Q:VK)(_:XK):Prop|m(r wl S' A x n:_)(_:vs=[.ref r,kJ x])(_:dz CR H r wl (S',O A))(_:S'.length<=1000)(_:mI x=true)(_:aao n S' A)(_:n<=40000)(_:eJ S')(_:AG CR r wl H (gD S' A x) Q)
def Md{x}(b:mI x=true):(decide (dg x=[42])||(decide (dg x=[124])||(decide (dg x=[38])||decide (dg x=[43]))))=true↔∃c,x=.sign c/\ô c=true:=by
 constructor
 .intro h;simp only[j3,du]at h;cases x with
  |name a=>have b:Õ a=true:=b;exfalso;rcases h with h|h|h|h<;>(rw[show a=_ from h]at b;exact absurd b gn)
  |arrow=>exfalso;rcases h with h|h|h|h<;>exact absurd h gn
  |sign c=>
   refine⟨c,J,?_⟩;have h:c=42\/c=124\/c=38\/c=43:=by simpa[dg]using h
   rcases h with rfl|rfl|rfl|rfl<;>rfl
 .rintro⟨c,rfl,h⟩;rcases xp h with rfl|rfl|rfl|rfl<;>decide
theorem Me:∀{S:bQ}{A:Â},(fM S A).1.length<=S.length
|[],_|.gs::S,A|.ofc::S,A|.whn::S,A|.paren::S,A|.dU _::S,A=>aN _
|.two c B::S,A=>d5 (Me (S:=S) (A:=two c B A)) Gc
def aaI:cX P w K mg base 8 CR "follow_part" ["self","token"] (aaH CR):=by
 obtain⟨a2,s,t⟩:=T.rK;refine dB ["self","token"] T.Xq λH vs Q nd f h=>?_;obtain⟨r,wl,S0,b,x,n,rfl,g,l,d,m,o,aF,kn,ks⟩:=h;refine⟨_,az (yw (yq jJ (pv 1)<|bj s)<|yr<|ym (pv 0) T.b7 (aaE T) f<|y1<|pv 1)<|az (yw (yq e_ (pv 1)<|bj T.Au)<|az (gN<|yn (pv 0) T.b7 (Ma T) f)<|az (gN<|ym (pv 0) T.b7 (E1 T) f<|y1<|pv 1)<|yr fK)<|yr<|qW (yp e_ (pv 1) cz)<|pC<|yn (pv 0) T.b7 (aax T) f,?_⟩;obtain⟨dx,fv,vs,h1,h2,C,D⟩:=id g;refine⟨a2,_,J,.inr<|t _,J,J,?_⟩;refine am (on _) ?_;unfold bW;by_cases i:∃c,x=.sign c/\ô c=true
 .rw[aj<|(Md d).mpr i];obtain⟨c,rfl,p⟩:=i;have e:gD S0 b (.sign c)=mD S0 b c:=by show(if ô c=true then _ else _)=_;rw[aj p]
  rw[e]at kn ks;exact⟨dx,_,h1,J,r,wl,S0,b,c,J,g,l,p,aF,λe=>kn e H<|Kp.refl _ _ _,ks⟩
 .rw[ai λz=>i<|(Md d).mp z];refine⟨J,?_⟩;refine am (fR _ _) ?_;cases x with
  |arrow=>refine ba ⟨dx,_,h1,J,r,wl,S0,b,n,J,g,m,o,aF,λH1 q jF=>?_⟩;obtain⟨k,u,v,y,E,F,G⟩:=id q;refine⟨k,_,y,J,r,wl,_,.dU (fM S0 b).2,J,q,J,d5 Me l,λH2 A gM=>?_⟩;exact ks _ J H2 A<|jF.trans gM
  |name a=>
   have d:Õ a=true:=d;rw[ai (by rw[show decide (dg (.name a)=[45,111])=false from Mc d gn];decide)];refine⟨J,?_⟩;show if decide (V.str (S a)=V.str (S [41]))=true then _ else _;rw[fR,Mc d gn];exact aU<|kn J H<|Kp.refl _ _ _
  |sign c=>
   have B:¬ô c=true:=λz=>i ⟨c,J,z⟩;rw[ai (by simp[dg])];refine⟨J,?_⟩;show if decide (V.str (S [c])=V.str (S [41]))=true then _ else _;rw[fR];have e:gD S0 b (.sign c)=if c=41 then p7 (fG S0 b)else none:=by show(if ô c=true then _ else _)=_;rw[ai B]
   rw[e]at kn ks;by_cases j:c=41
   .rw[aj j]at kn ks;rw[aj (by simp[j])];exact⟨dx,_,h1,J,r,wl,S0,b,n,J,g,m,o,aF,kn,ks⟩
   .rw[ai j]at kn;rw[ai (by simp[j])];exact kn J H<|Kp.refl _ _ _
inductive aaJ(CR:À)(vs:List V)(H:Hp)(Q:VK)(_:XK):Prop|m(r wl st x n:_)(_:vs=[.ref r,kJ x])(_:dz CR H r wl st)(_:st.1.length<=100)(_:mI x=true)(_:tz n st)(_:n+1<=40000)(_:eJ st.1)(_:AG CR r wl H (abt st x) Q)
def aaK:cX P w K mg base 9 CR "take" ["self","token"] (aaJ CR):=dB ["self","token","fits"] T.Xo λH vs Q nd b h=>by
 obtain⟨r,wl,⟨S0,o⟩,x,n,rfl,a,c,d,f,s,aF,kn,ks⟩:=h;refine⟨_,az (pF (yq kj (yf<|pv 0) cH) (bS<|ys 2 nd<|ym (pv 0) T.b7 (aaG T) b<|y1<|pv 1)<|bS<|ys 2 nd<|ym (pv 0) T.b7 (aaI T) b<|y1<|pv 1)<|yr<|qW (pv 2)<|pC<|yp ud (ye T.cS<|yf<|pv 0)<|bj T.Xz,?_⟩;have t:=T.nR "waiting" gn;have u:=T.nR "formula" gn;obtain⟨dx,fv,vs,h1,h2,E,g⟩:=id a;have c:S0.length<=100:=c;have fin:∀p,abt (S0,o) x=p.bind aay->AG CR r wl H p λv H'=>mr (HN (dD 2)<|kT (pI λi j=>.bl<|decide (i<=j)) (xV (λxs H Q=>c2 λp ys=>xs=[.ref p]/\(ao K H p ys\/aV K H p ys)/\Q (.int ys.length) H)<|dN (wq K (dD 0) "waiting") dF)<|tC<|.int 100) (ey Q) [O<|.ref r,O<|kJ x,O v] H':=by
  intro p ep;refine⟨λe H' kp=>?_,λy e H' k kp=>?_⟩
  .subst e;exact(kn ep H' kp)
  .subst e;obtain⟨z,F,A,B,C,D,G⟩:=id k;refine(⟨CR,z,_,_,B,T.b7,t,lL,wl,_,J,.inl<|ao.of C,?_⟩);show Q (.bl<|decide (((A.reverse.length:Nat):Int)<=100)) H';rw[BA,D.len];have l:(O y:Option dh).bind aay=if y.1.length<=100 then O y else none:=J;by_cases m:y.1.length<=100
   .rw[bP Z];exact ks y (by rw[ep,l,aj m]) H' k kp
   .rw[bO Z];exact kn (by rw[ep,l,ai m]) H' kp
 refine⟨CR,dx,_,_,h1,T.b7,u,ot,J,?_⟩;cases o with
 |none=>have:fv=.aQ:=g;subst this;have ff:=fin (mC S0 x) J;exact⟨dx,_,h1,J,r,wl,S0,x,n,J,a,Z,d,f,s,aF,ff⟩
 |some q=>obtain⟨I,rfl,_⟩:=g;have ff:=fin (gD S0 q x) J;exact⟨dx,_,h1,J,r,wl,S0,q,x,n,J,a,Z,d,f,Z,aF,ff⟩
theorem xr:∀{S:bQ}{A:Â},eJ S->eJ (dH S A).1
|[],_,h|.paren::S,A,h|.two _ _::S,A,h|.dU _::S,A,h=>h
|.gs::S,A,h=>xr (S:=S) (A:=Æ A) h
|.ofc::S,A,h=>xr (S:=S) (A:=.ofc A) h
|.whn::S,A,h=>xr (S:=S) (A:=.whn A) h
def aaL{st y}{x}(h:eJ st.1)(e:abt st x=O y):eJ y.1/\y.1.length<=100:=by
 have f:∀o,o.bind aay=O y->o=O y/\y.1.length<=100:=by
  intro o q;cases o with
  |none=>exact eG q
  |some z=>
   simp only[Option.bind_some,aay]at q;split at q
   next b=>cases q;exact⟨J,b⟩
   .cases q
 obtain⟨S0,o⟩:=st;cases o with
 |none=>
  obtain⟨e,b⟩:=f _<|show(mC S0 x).bind aay=O y from e;refine⟨?_,b⟩
  cases x with
  |arrow=>exact eG e
  |name a=>cases e;exact xr h
  |sign c=>
   have e:(if c=40 then O ((.paren::S0,U))else if c=126 then O (.gs::S0,U)else if c=33 then O (.ofc::S0,U)else if c=63 then O (.whn::S0,U)else U)=O y:=e;split at e
   .cases e;exact h
   split at e
   .cases e;exact h
   split at e
   .cases e;exact h
   split at e
   .cases e;exact h
   .cases e
 |some d=>
  obtain⟨e,b⟩:=f _<|show(gD S0 d x).bind aay=O y from e;refine⟨?_,b⟩
  cases x with
  |name a=>exact eG e
  |arrow=>cases e;exact AF h
  |sign c=>
   have e:(if ô c=true then mD S0 d c else if c=41 then p7 (fG S0 d)else U)=O y:=e;split at e
   next g=>
    unfold mD at e;split at e
    .split at e
     .cases e;exact⟨g,h⟩
     .cases e
    .cases e;exact⟨g,h⟩
   .split at e
    .let i:eJ (fG S0 d).1:=E3 (AF h);cases z:fG S0 d with
     |mk R B=>
      rw[z]at e i;unfold p7 at e;split at e
      next k l j=>cases j;cases e;exact xr<|uS i
      .cases e
    .cases e
inductive aaM(vs:List V)(H:Hp)(Q:VK)(_:XK):Prop|m(t:_)(_:vs=[.str<|S t])(_:t.length<=100000)(_:(ĕ t=U->∀H',aa H H'->Q .aQ H'))(_:∀A,ĕ t=O A->∀H' a,aa H H'->bF H' A a->Q (.ref a) H')
def aaN(T:Tx P w K mg CR CL CP CF CT):Ok P w K mg base 10 "read_formula" ["text"] (aaM):=bh ["text","tokens","reader","token"] T.XB λH vs Q nd I h=>by
 obtain⟨t,rfl,hz,kn,ks⟩:=h;have eM:(S t).length<=sizeLine:=by rw[bK,bn];lia
 have g:=wS t;refine⟨_,az (yw (yq q0 (eF (pN) J T.cS mT (y1 (pv 0))) (bj T.XA)) (yr cH)) (az (ys 1 nd (yc (aan T) I (y1 (pv 0)))) (az (yw (yq kj (pv 1) cH) (yr cH)) (az (ys 2 nd (Ka (aar T) (I.dE gn) J)) (az (yo (dm (pv 1)) (yx 3 nd) (bS (yw (gy (d_ (ym (pv 2) T.b7 (aaK T) I (y1 (pv 3))))) (yr cH)))) (yr (yn (pv 2) T.b7 (aaA T) I)))))),?_⟩;refine⟨S t,J,eM,?_⟩;show if decide ((2000:Int)<((S t).length))=true then _ else _;rw[bK];refine dq (λh1=>?_) (λh1=>?_)
 .have h1:=dR h1;refine kn ?_ H (aa.refl H);rw[g,aj (by show 2000<t.length;lia)]
 .have h1:t.length<=2000:=by
   by_cases z:t.length<=2000
   .exact z
   .exact absurd (bP Z) h1
  rw[ai (by show ¬2000<t.length;lia)]at g;refine⟨t,J,Z,λe H1 n=>?_,λl e H1 L n nL s hlen=>?_⟩
  .refine⟨J,?_⟩;refine(kn ?_ H1 n);rw[g,e];rfl
  .refine⟨J,?_⟩;have g:ĕ t=ade ([],U) l:=by rw[g,e];rfl
   have cT:=xq _ t l (aN _) e;intro r u C R ner;refine⟨r,u,J,aq,λH2 wl a2 iM gM=>⟨J,?_⟩⟩;have D:aa H1 H2:=aa.made C R gM;have PM:r≠L:=λz=>by subst z;rw[s]at C;cases C
   have a1:wl≠L:=λz=>by
    subst z;have:(ab (ab H1 u (.own r)) r (.aO CR u [])) wl=O (.ae (l.map kJ)):=au (cB PM)▸au (bv s R)▸s;rw[this]at a2;cases a2
   have fr:∀b o,H b=O o->b≠r/\b≠wl:=λb o e=>by
    have M:=n _ _ e;refine⟨bv M C,λz=>?_⟩;subst z;have:(ab (ab H1 u (.own r)) r (.aO CR u [])) b=O o:=au (bv M C)▸au (bv M R)▸M;rw[this]at a2;cases a2
   refine⟨L,J,⟨_,ao.of (D _ _ s)⟩,kh (xs:=l.map kJ) (λi N H'=>c2 λst v=>N=[O (.str (S t)),O (.ref L),O (.ref r),v]/\dz CR H' r wl st/\Kp r wl H2 H'/\ade st (l.drop i)=ade ([],U) l/\tz i st/\eJ st.1/\st.1.length<=100)
    ⟨([],U),U,J,iM,Kp.refl _ _ _,J,⟨J,aN _⟩,dO,gn⟩ ?_ ?_ ?_⟩
   .rintro i N H' _ ⟨st,v,rfl,_,kp,_⟩;exact ao.of (kp _ _ (D _ _ s) (cB PM) (cB a1))
   .rintro i y N H' hi ⟨st,v,rfl,E,kp,d,F,a0,Mf⟩;obtain⟨x,aav,rfl⟩:∃x,l[i]?=O x/\y=kJ x:=by
     rw[aR]at hi;cases q:l[i]? with
     |none=>rw[q]at hi;exact eG hi
     |some z=>rw[q]at hi;exact⟨z,J,(cZ hi).symm⟩
    have hi2:i<l.length:=(b9.mp aav).1;have nn:l.drop i=x::l.drop (i+1):=by obtain⟨G,X⟩:=b9.mp aav;rw[mQ G,X]
    rw[nn]at d;have tD:mI x=true:=dQ.mp cT x (bM aav);obtain⟨Y,nI,GX,G,X,q3,q4⟩:=id E;refine⟨Y,_,G,J,r,wl,st,x,i,J,E,Mf,tD,F,Z,a0,λf p m=>?_,λz f p tH m=>?_⟩
    .refine((kn ?_ p λb o e=>?_))
     .rw[g,<-d];show(abt st x).bind _=U;rw[f];rfl
     .obtain⟨j,k⟩:=fr b o e;exact m _ _ (kp _ _ (D _ _ (n _ _ e)) j k) j k
    .obtain⟨o1,o2⟩:=aaL a0 f;refine(⟨z,_,J,tH,kp.trans m,?_,F.take (aaB tD) f,o1,o2⟩);rw[<-d];show _=(abt st x).bind _;rw[f];rfl
   .rintro N H' ⟨st,v,rfl,E,kp,d,F,a0,Mf⟩;rw[aK]at F d;rw[mR]at d;have d:acN st=ade ([],U) l:=d;obtain⟨Y,nI,GX,G,X,q3,q4⟩:=id E;have a3:∀A,st.2=O A->aao l.length st.1 A:=λA eA=>by
     obtain⟨S1,o1⟩:=st;cases eA;exact F
    refine⟨Y,_,G,J,r,wl,st,l.length,J,E,a3,Z,a0,λf p m=>kn ?_ p λb o e=>?_,λB f p a b8 m=>ks B ?_ p a (λc o e=>?_) b8⟩
    .rw[g,<-d,f]
    .obtain⟨j,k⟩:=fr b o e;exact m _ _ (kp _ _ (D _ _ (n _ _ e)) j k) j k
    .rw[g,<-d,f]
    .obtain⟨j,k⟩:=fr c o e;exact m _ _ (kp _ _ (D _ _ (n _ _ e)) j k) j k
inductive aaO(vs:List V)(H:Hp)(Q:VK)(_:XK):Prop|m(t:_)(_:vs=[.str<|S t])(_:t.length<=100000)(_:(ß t=U->∀H',aa H H'->Q .aQ H'))(_:∀A,ß t=O A->∀H' a,aa H H'->bF H' A a->Q (.ref a) H')
def E4:Ok P w K mg base 11 "read_bounded" ["text"] (aaO):=bh ["text","formula"] T.XC λH vs Q nd f h=>by
 obtain⟨t,rfl,j,kn,ks⟩:=h;have g:ß t=(ĕ t).bind λA=>if Ø A=true then O A else none:=J;refine⟨_,az (ys 1 nd<|yc (aaN T) f<|y1<|pv 0)<|az (yw (PW.pt<|n9 (yq kj (pv 1) cH)<|pB<|gy<|d_<|yc (EV T) f<|y1<|pv 1)<|yr cH)<|yr<|pv 1,?_⟩;refine⟨t,J,j,λe H1 b=>?_,λA e H1 a b b8=>?_⟩
 .refine⟨J,?_⟩;exact kn (by rw[g,e];rfl) H1 b
 .refine⟨J,?_⟩;have c:ß t=if Ø A=true then O A else none:=by rw[g,e];rfl
  refine⟨a,A,J,b8.iK,b8.2,by have:=WN e;lia,λH2 d=>?_⟩;cases i:Ø A with
  |false=>rw[i]at c;exact kn c H2<|b.trans d
  |true=>rw[i]at c;exact(ks A c H2 a (b.trans d)<|b8.same d)
abbrev FA:=À×Â
inductive SeqAt(H:Hp)(sl:À)(Sq:È):Prop|m(xs:List FA)(_:H sl=O (.ae<|xs.map λx=>V.ref x.1))(_:(∀x∈xs,bF H x.2 x.1))(_:xs.map (·.2)=Sq)
def SeqAt.same(h:SeqAt H sl Sq)(s:aa H H'):SeqAt H' sl Sq:=let⟨xs,e,r,q⟩:=h;⟨xs,s _ _ e,λx a=>(r x a).aT<|aa.aT s,q⟩
def lf(kd:Ã)(pl ql:À)(fv:V)(sl:À):List (Ã×V):=[("kind",.str kd),("premises",.ref pl),("places",.ref ql),("formula",fv),("sequent",.ref sl)]
structure iN(K:Ñ)(CL:À)(H:Hp)(ln ss:À)(ps:List Nat)(fo:Option Â)(Ss:List È):Prop where
 ln:∃dx kd pl ql sl fv,H ln=O (.aO CL dx (lf kd pl ql fv sl))/\H ql=O (.ae (ps.map λ(n:Nat)=>V.int n))/\FV H fv fo
 ss:∃dW:List À,ao K H ss (dW.map V.ref)/\dW.length=Ss.length/\∀(i:Nat)(Sq:È),Ss[i]?=O Sq->∃sl,dW[i]?=O sl/\SeqAt H sl Sq
 ok:∀Sq∈Ss,Sq.length<=100/\∀A∈Sq,aE A=true/\Å A<=1000
 Cd:∀A,fo=O A->aE A=true/\Å A<=1000
def iN.same(h:iN K CL H ln ss ps fo Ss)(s:aa H H'):iN K CL H' ln ss ps fo Ss:=by obtain⟨⟨dx,kd,pl,ql,sl,fv,h1,h2,a⟩,⟨b,c,d,f⟩,g,j⟩:=h;refine⟨⟨dx,kd,pl,ql,sl,fv,s _ _ h1,s _ _ h2,a.aT<|aa.aT s⟩,⟨b,s.seq c,d,λi Sq e=>?_⟩,g,j⟩;obtain⟨sl,k,l⟩:=f i Sq e;exact⟨sl,k,l.same s⟩
def SeqAt.get(h:SeqAt H sl Sq)(c:p<Sq.length):c2 λys a=>H sl=O (.ae ys)/\ys[p]?=O (V.ref a)/\bF H (bu Sq p) a:=by
 obtain⟨xs,e,r,q⟩:=h;subst q;rw[aK]at c;obtain⟨x,b⟩:∃x,xs[p]?=O x:=⟨_,bL c⟩;refine⟨_,x.1,e,by rw[aR,b];rfl,?_⟩;let:bu (xs.map (·.2)) p=x.2:=by unfold bu;rw[jy,aR,b];rfl
 rw[this];exact r x<|bM b
def aaP(p:Nat)(ps:List Nat):d8 (.int (p:Nat)) (ps.map λ(n:Nat)=>V.int n)=ps.any λq=>q==p:=by
 unfold d8;rw[List.any_map];congr 1;funext q;show(decide (q=(p:Int)))=(q==p);by_cases h:q=p
 .subst h;simp
 .rw[decide_eq_false Z,beq_eq_false_iff_ne.mpr h]
def aaQ(ps:List Nat):(ps.map λ(n:Nat)=>V.int n).all my=true:=by rw[oJ,dQ];intro n _;rfl
def nJ(ps:List Nat)(k:Nat)(xs:List FA):List FA:=((xs.zipIdx k).filter λx=>!(ps.any λp=>p==x.2)).map (·.1)
theorem Mg(ps:List Nat):∀(xs:List FA)(k:Nat),(nJ ps k xs).map (·.2)=(((xs.map (·.2)).zipIdx k).filter λx=>!(ps.any λp=>p==x.2)).map (·.1)
|[]=>λ_=>rfl
|x::r=>λk=>by
 let a:=Mg ps r (k+1);unfold nJ at a⊢;rw[kR,jd,bz,kR,jd];by_cases h:(!(ps.any λp=>p==k))=true
 .simp only[h,fi,bz];rw[a]
 .simp only[h,i',oK];exact a
theorem Mh(ps:List Nat):∀{xs:List FA}{i:Nat}{x:FA}(k:Nat),xs[i]?=O x->nJ ps k (xs.take (i+1))=nJ ps k (xs.take i)++(if(!(ps.any λp=>p==k+i))=true then[x]else[])
|[],i,x,_,h=>by simp at h
|y::r,0,x,k,h=>by
 cases h;rw[show(ps.any λp=>p==k+0)=ps.any λp=>p==k from J];show(Ãj (·.1)<|Äb (λx:FA×Nat=>!(ps.any λp=>p==x.2)) [(y,k)])=[]++_;rw[jd];by_cases h:(!(ps.any λp=>p==k))=true
 .simp only[h,fi];rfl
 .simp only[h,i',oK];rfl
|y::r,i+1,x,k,h=>by
 let a:=Mh ps (xs:=r) (i:=i) (x:=x) (k+1) h;unfold nJ at a⊢;rw[vf,vf,kR,kR,jd,jd,show k+(i+1)=k+1+i by lia];by_cases h:(!(ps.any λp=>p==k))=true
 .simp only[h,fi,bz,a,Om]
 .simp only[h,i',oK,a]
def aaR(ps:List Nat)(k:Nat)(xs):(nJ ps k xs).length<=xs.length:=by unfold nJ;rw[aK];exact d5 (mU _ _) Gc
def aaS{xs}{x}(h:x∈nJ ps k xs):x∈xs:=by obtain⟨y,a,rfl⟩:=bZ.mp h;let:=(r_.mp a).1;exact OT this
inductive aaT(K:Ñ)(vs:List V)(H:Hp)(Q:VK)(_:XK):Prop|m(sl pl Sq ps:_)(_:vs=[.ref sl,.ref pl])(_:SeqAt H sl Sq)(_:ao K H pl (ps.map λ(n:Nat)=>V.int n))(_:Sq.length<=1000)(_:∀H' D,aa H H'->H D=U->SeqAt H' D (wo ps Sq)->Q (.ref D) H')
def E5(T:Tx P w K mg CR CL CP CF CT):Ok P w K mg base 1 "without" ["sequent","places"] (aaT K):=bh ["sequent","places","place","formula"] T.XD λH vs Q nd A h=>by
 obtain⟨sl,pl,Sq,ps,rfl,⟨xs,p,s,rfl⟩,t,u,k⟩:=h;rw[aK]at u;refine⟨_,yr (wE J nd (Dv J T.EN (y1 (pv 0))) (uj (own:=[("place",2),("formula",3)]) (by rfl)) (λ_ _ _ _ _=>(Kf (n:=2) J J (pG (yx 2 nd) (pG (yx 3 nd) y6)))) (λ_ _ _ _ _=>(zq (yq (UQ J) (pv 2) (pv 1)))) (λ_ _ _ _ _=>(pv 3))),?_⟩;refine⟨sl,_,J,ao.of p,λD l=>Kc (λi H'=>(∀b o,H b=O o->H' b=O o)/\H' D=O (.ae ((nJ ps 0 (xs.take i)).map λx=>V.ref x.1)))
  ⟨aa.ab l,aq⟩ (λi H' _ e=>ao.of (e.1 _ _ p)) (λi v H' r d e y=>?_) (λH' e=>?_)⟩
 .obtain⟨c,f⟩:=e;obtain⟨x,m,rfl⟩:∃x,xs[i]?=O x/\v=V.ref x.1:=by
   rw[aR]at d;cases q:xs[i]? with
   |none=>rw[q]at d;exact eG d
   |some z=>rw[q]at d;exact⟨z,J,(cZ d).symm⟩
  have g:aa H' (ab H' r (.be [.int i,.ref x.1])):=aa.ab y;refine⟨r,_,J,aV.of aq,J,_,_,J,_,_,J,J,J,?_⟩;refine⟨pl,_,J,.inl ((aa.trans c g).seq t),J,aaQ ps,?_⟩;refine am (aj J) ?_;rw[aaP];have j:=Mh ps 0 m;rw[mS]at j;refine dq (λh=>?_) (λh=>?_)
  .rw[aj h]at j;refine⟨_,g _ _ f,?_,λb o e=>?_,?_⟩
   .have:=aaR ps 0 (xs.take i);rw[eh]at this;rw[aK,bn];omega
   .exact au (bv e l)▸g _ _ (c _ _ e)
   .rw[aq,j,bU];rfl
  .rw[ai h,jW]at j;exact⟨λb o e=>g _ _ (c _ _ e),j▸g _ _ f⟩
 .obtain⟨c,f⟩:=e;rw[aK,l_]at f;refine k H' D c l ⟨nJ ps 0 xs,f,λx m=>(s x (aaS m)).aT (aa.aT c),?_⟩;exact Mg ps xs 0
inductive Mi(K:Ñ)(CL:À)(xt:List Nat->List È->Â->Prop)(vs:List V)(H:Hp)(Q:VK)(_:XK):Prop|m(ln ss ps fo Ss A:_)(_:vs=[.ref ln,.ref ss])(_:iN K CL H ln ss ps fo Ss)(_:xt ps Ss A)(_:∀a,bF H A a->Q (.ref a) H)
inductive jT(ps:List Nat)(Ss:List È)(A:Â):Prop|m(p S0:_)(_:ps[0]?=O p)(_:Ss[0]?=O S0)(_:p<S0.length)(_:A=bu S0 p)
inductive qh(ps:List Nat)(Ss:List È)(A:Â):Prop|m(q Sl:_)(_:ps[1]?=O q)(_:Ss.getLast? =O Sl)(_:q<Sl.length)(_:A=bu Sl q)
def ou:Ok P w K mg base 1 "chosen" ["line","sequents"] (Mi K CL jT):=bh ["line","sequents"] T.XH λH vs Q nd q h=>by obtain⟨ln,ss,ps,fo,Ss,A,rfl,b,⟨p,S0,c,d,e,rfl⟩,k⟩:=h;obtain⟨⟨dx,kd,pl,ql,sl,fv,h1,h2,r⟩,⟨s,f,t,g⟩,u,v⟩:=b;refine⟨_,yr<|yl (yl (pv 1) aG)<|yl (yf<|pv 0) aG,?_⟩;let i:=T.nL "places" gn;obtain⟨l,m,n⟩:=g 0 S0 d;obtain⟨ys,a,o,e2,b8⟩:=n.get e;refine⟨_,.ref _,f,cb (by rw[aR,m];rfl),CL,dx,_,_,h1,T.bb,i,J,_,.int _,ao.of h2,cb (by rw[aR,c];rfl),_,_,ao.of o,cb e2,k a b8⟩
def AI:Ok P w K mg base 1 "chosen_beside" ["line","sequents"] (Mi K CL qh):=bh ["line","sequents"] T.XI λH vs Q nd r h=>by
 obtain⟨ln,ss,ps,fo,Ss,A,rfl,e,⟨p,S0,f,c,g,rfl⟩,k⟩:=h;obtain⟨⟨dx,kd,pl,ql,sl,fv,h1,h2,s⟩,⟨b,i,t,l⟩,u,v⟩:=e;refine⟨_,yr<|yl (yl (pv 1)<|pJ pK aG)<|yl (yf<|pv 0) aG,?_⟩;have m:=T.nL "places" gn;rw[OY]at c;obtain⟨d,n,o⟩:=l _ S0 c;obtain⟨ys,a,q,e2,b8⟩:=o.get g;have cu:0<Ss.length:=by
  cases Ss with
  |nil=>simp at c
  |cons _ _=>simp
 have ae:gX (b.map V.ref) (-1)=O (V.ref d):=by
  unfold gX kY;rw[ai gn,aj (by rw[aK];omega)];show(b.map V.ref)[(-1+(((b.map V.ref).length):Int)).toNat]?=_;rw[aK,show(-1+(b.length:Int)).toNat=Ss.length-1 by omega,aR,n];rfl
 refine⟨_,J,_,.ref _,i,ae,CL,dx,_,_,h1,T.bb,m,J,_,.int _,ao.of h2,cb (by rw[aR,f];rfl),_,_,ao.of q,cb e2,k a b8⟩
def Mj{R a:È}(h1:SeqAt H D R)(h2:SeqAt H E a):c2 λxs zs=>H D=O (.ae xs)/\H E=O (.ae zs)/\xs.length=R.length/\zs.length=a.length/\∀p,H p=U->SeqAt (ab H p (.ae (xs++zs))) p (R++a):=by
 obtain⟨xs,e,f,b⟩:=h1;obtain⟨zs,e2,g,c⟩:=h2;refine⟨_,_,e,e2,by rw[<-b];simp,by rw[<-c];simp,λp d=>⟨xs++zs,by rw[aq,bU],λx h=>?_,by rw[bU,b,c]⟩⟩;rcases d6.mp h with q|q
 .exact(f x q).aT<|aa.aT<|aa.ab d
 .exact(g x q).aT<|aa.aT<|aa.ab d
def aaU{e x:À}(b8:bF H A x)(ne:H e=U):SeqAt (ab H e (.ae [.ref x])) e [A]:=⟨[(x,A)],aq,λz a=>by
 obtain rfl:z=(x,A):=by simpa using a
 exact b8.aT<|aa.aT<|aa.ab ne,J⟩
def ow{a:Hp}{e x:À}{R:È}(i:aa H H1)(j:SeqAt H1 D R)(n:R.length<=300)(d:aa H1 a)(b8:bF a A x)(ne:a e=U)(k:∀H' b,aa H H'->H b=U->SeqAt H' b (R++[A])->Q (.ref b) H'):IV (.ref D) (.ref e) (ab a e (.ae [.ref x])) Q:=by
 let g:aa a (ab a e<|.ae [.ref x]):=aa.ab ne;obtain⟨xs,zs,l,e2,m,l2,f⟩:=Mj (j.same<|d.trans g)<|aaU b8 ne;let h:=i.trans<|d.trans g;exact⟨D,e,xs,zs,J,J,l,e2,by rw[m,l2,bn];simp only[dP];lia,λp c=>k _ p (h.trans<|aa.ab c) (h.free c)<|f p c⟩
inductive iY(K:Ñ)(CL:À)(xt:List Nat->Option Â->List È->È->Prop)(vs:List V)(H:Hp)(Q:VK)(_:XK):Prop|m(ln ss ps fo Ss M:_)(_:vs=[.ref ln,.ref ss])(_:iN K CL H ln ss ps fo Ss)(_:xt ps fo Ss M)(_:∀H' D,aa H H'->H D=U->SeqAt H' D M->Q (.ref D) H')
def AJ(ps:List Nat)(Sq:È):(wo ps Sq).length<=Sq.length:=by unfold wo;rw[aK];exact d5 (mU _ _) Gc
def w8(h:p<Sq.length):bu Sq p∈Sq:=by unfold bu;exact jy▸bL h▸Br h
inductive mK(ps:List Nat)(_:Option Â)(Ss:List È)(M:È):Prop|m(p S0:_)(_:ps[0]?=O p)(_:Ss[0]?=O S0)(_:M=wo [p] S0)
inductive AK(ps:List Nat)(_:Option Â)(Ss:List È)(M:È):Prop|m(p S0:_)(_:ps[1]?=O p)(_:Ss[1]?=O S0)(_:M=wo [p] S0)
inductive AL(ps:List Nat)(_:Option Â)(Ss:List È)(M:È):Prop|m(S0:_)(_:Ss[0]?=O S0)(_:M=wo ps S0)
def qi:Ok P w K mg base 2 "rest_of_first" ["line","sequents"] (iY K CL mK):=bh ["line","sequents"] T.XE λH vs Q nd c h=>by obtain⟨ln,ss,ps,fo,Ss,M,rfl,d,⟨p,S0,e,b,rfl⟩,k⟩:=h;obtain⟨⟨dx,kd,pl,ql,sl,fv,h1,h2,v⟩,⟨x,f,y,g⟩,i,z⟩:=d;refine⟨_,yr<|yc (E5 T) c<|y2 (yl (pv 1) aG)<|bH<|y1<|yl (yf<|pv 0) aG,?_⟩;let m:=T.nL "places" gn;obtain⟨n,o,q⟩:=g 0 S0 b;refine⟨_,_,f,cb (by rw[aR,o];rfl),CL,dx,_,_,h1,T.bb,m,J,_,_,ao.of h2,cb (by rw[aR,e];rfl),Ge,λl r=>?_⟩;let a:aa H (ab H l<|.ae [.int p]):=aa.ab r;refine⟨n,l,S0,[p],J,q.same a,ao.of aq,by let:=(i S0<|bM b).1;lia,λH' D s t u=>k H' D (a.trans s) (a.free t) u⟩
def Ml:Ok P w K mg base 2 "rest_of_second" ["line","sequents"] (iY K CL AK):=bh ["line","sequents"] T.XF λH vs Q nd c h=>by obtain⟨ln,ss,ps,fo,Ss,M,rfl,d,⟨p,S0,e,b,rfl⟩,k⟩:=h;have⟨⟨dx,kd,pl,ql,sl,fv,h1,h2,v⟩,⟨x,f,y,g⟩,i,z⟩:=d;refine⟨_,yr<|yc (E5 T) c<|y2 (yl (pv 1) aG)<|bH<|y1<|yl (yf<|pv 0) aG,?_⟩;let m:=T.nL "places" gn;obtain⟨n,o,q⟩:=g 1 S0 b;refine⟨_,_,f,cb (by rw[aR,o];rfl),CL,dx,_,_,h1,T.bb,m,J,_,_,ao.of h2,cb (by rw[aR,e];rfl),Ge,λl r=>?_⟩;let a:aa H (ab H l<|.ae [.int p]):=aa.ab r;refine⟨n,l,S0,[p],J,q.same a,ao.of aq,by let:=(i S0<|bM b).1;lia,λH' D s t u=>k H' D (a.trans s) (a.free t) u⟩
def Mm:Ok P w K mg base 2 "rest_of_both_places" ["line","sequents"] (iY K CL AL):=bh ["line","sequents"] T.XG λH vs Q nd b h=>by obtain⟨ln,ss,ps,fo,Ss,M,rfl,c,⟨S0,a,rfl⟩,k⟩:=h;have⟨⟨dx,kd,pl,ql,sl,fv,h1,h2,n⟩,⟨o,d,p,e⟩,f,q⟩:=c;refine⟨_,yr<|yc (E5 T) b<|y2 (yl (pv 1) aG)<|yf<|pv 0,?_⟩;let g:=T.nL "places" gn;have⟨i,l,m⟩:=e 0 S0 a;refine⟨_,_,d,cb (by rw[aR,l];rfl),CL,dx,_,_,h1,T.bb,g,J,i,ql,S0,ps,J,m,ao.of h2,by let:=(f S0<|bM a).1;lia,k⟩
inductive aaV(K:Ñ)(CL:À)(vs:List V)(H:Hp)(Q:VK)(_:XK):Prop|m(c ln ss ps fo Ss A B:_)(_:vs=[.str<|S [c],.ref ln,.ref ss])(_:ô c=true)(_:iN K CL H ln ss ps fo Ss)(_:jT ps Ss A)(_:qh ps Ss B)(_:∀H' a,aa H H'->bF H' (two c A B) a->Q (.ref a) H')
def uV(a:iN K CL H ln ss ps fo Ss)(h:jT ps Ss A):aE A=true/\Å A<=1000:=by obtain⟨p,S0,_,b,c,rfl⟩:=h;exact(a.ok S0<|bM b).2 _<|w8 c
def aaW(a:iN K CL H ln ss ps fo Ss)(h:qh ps Ss A):aE A=true/\Å A<=1000:=by obtain⟨p,S0,_,b,c,rfl⟩:=h;exact(a.ok S0<|List.mem_of_getLast? b).2 _<|w8 c
def E6:Ok P w K mg base 2 "joined" ["sign","line","sequents"] (aaV K CL):=bh ["sign","line","sequents"] T.XJ λH vs Q nd d h=>by obtain⟨c,ln,ss,ps,fo,Ss,A,B,rfl,g,b,e,f,k⟩:=h;refine⟨_,yr<|yc (xh T) d<|y3 (pv 0) (yc (ou T) d<|y2 (pv 1)<|pv 2)<|yc (AI T) d<|y2 (pv 1)<|pv 2,?_⟩;have m:=uV b e;have n:=aaW b f;refine⟨ln,ss,ps,fo,Ss,A,J,b,e,λa i=>?_⟩;refine⟨ln,ss,ps,fo,Ss,B,J,b,f,λj l=>?_⟩;exact⟨c,A,B,a,j,J,g,i,l,Z,Z,λH' x s' _ b8=>k H' x s' b8⟩
inductive Mn(ps:List Nat)(fo:Option Â)(Ss:List È)(M:È):Prop|m(R1 R2:_)(_:mK ps fo Ss R1)(_:AK ps fo Ss R2)(_:M=R1++R2)
def ox(a:iN K CL H ln ss ps fo Ss)(h:mK ps fo Ss M):M.length<=100:=by obtain⟨p,S0,_,b,rfl⟩:=h;exact d5 (AJ _ _) (a.ok S0<|bM b).1
def E7(a:iN K CL H ln ss ps fo Ss)(h:AK ps fo Ss M):M.length<=100:=by obtain⟨p,S0,_,b,rfl⟩:=h;exact d5 (AJ _ _) (a.ok S0<|bM b).1
def Mo(a:iN K CL H ln ss ps fo Ss)(h:AL ps fo Ss M):M.length<=100:=by obtain⟨S0,b,rfl⟩:=h;exact d5 (AJ _ _) (a.ok S0<|bM b).1
def Mp:Ok P w K mg base 3 "make_cut" ["line","sequents"] (iY K CL Mn):=bh ["line","sequents"] T.XR λH vs Q nd c h=>by obtain⟨ln,ss,ps,fo,Ss,M,rfl,a,⟨i,R2,h1,h2,rfl⟩,k⟩:=h;refine⟨_,yr<|cJ iq (yc (qi T) c<|y2 (pv 0)<|pv 1)<|yc (Ml T) c<|y2 (pv 0)<|pv 1,?_⟩;refine⟨ln,ss,ps,fo,Ss,i,J,a,h1,λH1 D d q j=>?_⟩;refine⟨ln,ss,ps,fo,Ss,R2,J,a.same d,h2,λH2 l e r m=>?_⟩;obtain⟨xs,zs,n,e2,o,l2,f⟩:=Mj (j.same e) m;have s:=ox a h1;have t:=E7 a h2;have g:=d.trans e;exact⟨D,l,xs,zs,J,J,n,e2,by rw[o,l2,bn];lia,λp b=>k _ p (g.trans<|aa.ab b) (g.free b)<|f p b⟩
inductive aaX(ps:List Nat)(fo:Option Â)(Ss:List È)(M:È):Prop|m(R A B:_)(_:Mn ps fo Ss R)(_:jT ps Ss A)(_:qh ps Ss B)(_:M=R++[ό A B])
def aaY:Ok P w K mg base 5 "make_tensor" ["line","sequents"] (iY K CL aaX):=bh ["line","sequents"] T.XS λH vs Q nd b h=>by obtain⟨ln,ss,ps,fo,Ss,M,rfl,a,⟨R,A,B,h1,d,f,rfl⟩,k⟩:=h;refine⟨_,yr<|cJ iq (yc (Mp T) b<|y2 (pv 0)<|pv 1)<|bH<|y1<|yc (E6 T) b<|y3 (bj T.XM) (pv 0)<|pv 1,?_⟩;refine⟨ln,ss,ps,fo,Ss,R,J,a,h1,λH1 D c n g=>?_⟩;refine⟨42,ln,ss,ps,fo,Ss,A,B,J,J,a.same c,d,f,λi x j b8=>?_⟩;have b8:bF i (ό A B) x:=b8;exact⟨Ge,λe ne=>ow c g (by obtain⟨o,R2,l,m,rfl⟩:=h1;have:=ox a l;have:=E7 a m;rw[bw];lia) j b8 ne k⟩
inductive aaZ(ps:List Nat)(fo:Option Â)(Ss:List È)(M:È):Prop|m(R A B:_)(_:AL ps fo Ss R)(_:jT ps Ss A)(_:qh ps Ss B)(_:M=R++[ϋ A B])
def aa0:Ok P w K mg base 5 "make_par" ["line","sequents"] (iY K CL aaZ):=bh ["line","sequents"] T.XT λH vs Q nd b h=>by obtain⟨ln,ss,ps,fo,Ss,M,rfl,a,⟨R,A,B,h1,d,f,rfl⟩,k⟩:=h;refine⟨_,yr<|cJ iq (yc (Mm T) b<|y2 (pv 0)<|pv 1)<|bH<|y1<|yc (E6 T) b<|y3 (bj T.LQ) (pv 0)<|pv 1,?_⟩;refine⟨ln,ss,ps,fo,Ss,R,J,a,h1,λH1 D c l g=>?_⟩;refine⟨124,ln,ss,ps,fo,Ss,A,B,J,J,a.same c,d,f,λi x j b8=>?_⟩;have b8:bF i (ϋ A B) x:=b8;exact⟨Ge,λe ne=>ow c g (by have:=Mo a h1;lia) j b8 ne k⟩
inductive aa1(ps:List Nat)(fo:Option Â)(Ss:List È)(M:È):Prop|m(R A B:_)(_:mK ps fo Ss R)(_:jT ps Ss A)(_:qh ps Ss B)(_:M=R++[ύ A B])
def aa2:Ok P w K mg base 5 "make_with" ["line","sequents"] (iY K CL aa1):=bh ["line","sequents"] T.XU λH vs Q nd b h=>by obtain⟨ln,ss,ps,fo,Ss,M,rfl,a,⟨R,A,B,h1,d,f,rfl⟩,k⟩:=h;refine⟨_,yr<|cJ iq (yc (qi T) b<|y2 (pv 0)<|pv 1)<|bH<|y1<|yc (E6 T) b<|y3 (bj T.XN) (pv 0)<|pv 1,?_⟩;refine⟨ln,ss,ps,fo,Ss,R,J,a,h1,λH1 D c l g=>?_⟩;refine⟨38,ln,ss,ps,fo,Ss,A,B,J,J,a.same c,d,f,λi x j b8=>?_⟩;have b8:bF i (ύ A B) x:=b8;exact⟨Ge,λe ne=>ow c g (by have:=ox a h1;lia) j b8 ne k⟩
inductive aa3(ps:List Nat)(fo:Option Â)(Ss:List È)(M:È):Prop|m(R A B:_)(_:mK ps fo Ss R)(_:jT ps Ss A)(_:fo=O B)(_:M=R++[Ų A B])
def aa4:Ok P w K mg base 5 "make_plus_first" ["line","sequents"] (iY K CL aa3):=bh ["line","sequents"] T.XV λH vs Q nd d h=>by obtain⟨ln,ss,ps,fo,Ss,M,rfl,b,⟨R,A,B,h1,f,g,rfl⟩,k⟩:=h;refine⟨_,yr<|cJ iq (yc (qi T) d<|y2 (pv 0)<|pv 1)<|bH<|y1<|yc (xh T) d<|y3 (bj T.LR) (yc (ou T) d<|y2 (pv 0)<|pv 1)<|yf<|pv 0,?_⟩;have i:=T.nL "formula" gn;obtain⟨dx,kd,pl,ql,s,fv,j,t,l⟩:=b.ln;subst g;obtain⟨m,rfl,n⟩:=l;refine⟨ln,ss,ps,O B,Ss,R,J,b,h1,λH1 D c u o=>?_⟩;refine⟨ln,ss,ps,O B,Ss,A,J,b.same c,f,λa p=>?_⟩;refine⟨CL,dx,_,_,c _ _ j,T.bb,i,J,43,A,B,a,m,J,J,p,n.same c,by have:=(uV b f).2;lia,by have:=(b.Cd B J).2;lia,λq x r _ b8=>?_⟩;have b8:bF q (.plus A B) x:=b8;exact⟨Ge,λe ne=>ow c o (by have:=ox b h1;lia) r b8 ne k⟩
inductive aa5(ps:List Nat)(fo:Option Â)(Ss:List È)(M:È):Prop|m(R A B:_)(_:mK ps fo Ss R)(_:jT ps Ss A)(_:fo=O B)(_:M=R++[Ų B A])
def aa6:Ok P w K mg base 5 "make_plus_second" ["line","sequents"] (iY K CL aa5):=bh ["line","sequents"] T.XW λH vs Q nd d h=>by obtain⟨ln,ss,ps,fo,Ss,M,rfl,b,⟨R,A,B,h1,f,g,rfl⟩,k⟩:=h;refine⟨_,yr<|cJ iq (yc (qi T) d<|y2 (pv 0)<|pv 1)<|bH<|y1<|yc (xh T) d<|y3 (bj T.LR) (yf<|pv 0)<|yc (ou T) d<|y2 (pv 0)<|pv 1,?_⟩;have i:=T.nL "formula" gn;obtain⟨dx,kd,pl,ql,s,fv,j,t,l⟩:=b.ln;subst g;obtain⟨m,rfl,n⟩:=l;refine⟨ln,ss,ps,O B,Ss,R,J,b,h1,λH1 D c u o=>?_⟩;refine⟨CL,dx,_,_,c _ _ j,T.bb,i,J,?_⟩;refine⟨ln,ss,ps,O B,Ss,A,J,b.same c,f,λa p=>?_⟩;refine⟨43,B,A,m,a,J,J,n.same c,p,by have:=(b.Cd B J).2;omega,by have:=(uV b f).2;omega,λq x r _ b8=>?_⟩;have b8:bF q (.plus B A) x:=b8;exact⟨Ge,λe ne=>ow c o (by have:=ox b h1;omega) r b8 ne k⟩
inductive aa7(ps:List Nat)(fo:Option Â)(Ss:List È)(M:È):Prop|m(R A:_)(_:mK ps fo Ss R)(_:jT ps Ss A)(_:M=R++[ų A])
def aa8:Ok P w K mg base 5 "make_derelict" ["line","sequents"] (iY K CL aa7):=bh ["line","sequents"] T.XX λH vs Q nd c h=>by obtain⟨ln,ss,ps,fo,Ss,M,rfl,b,⟨R,A,h1,d,rfl⟩,k⟩:=h;refine⟨_,yr<|cJ iq (yc (qi T) c<|y2 (pv 0)<|pv 1)<|bH<|y1<|yc (Az T) c<|y2 (bj T.Aw)<|yc (ou T) c<|y2 (pv 0)<|pv 1,?_⟩;refine⟨ln,ss,ps,fo,Ss,R,J,b,h1,λH1 D f m g=>?_⟩;refine⟨ln,ss,ps,fo,Ss,A,J,b.same f,d,λa i=>?_⟩;refine⟨63,A,a,J,.inr J,i,by have:=(uV b d).2;lia,λj x l _ b8=>?_⟩;have b8:bF j (ų A) x:=b8;exact⟨Ge,λe ne=>ow f g (by have:=ox b h1;lia) l b8 ne k⟩
inductive aa9(ps:List Nat)(fo:Option Â)(Ss:List È)(M:È):Prop|m(R A:_)(_:mK ps fo Ss R)(_:jT ps Ss A)(_:M=R++[ώ A])
def aba:Ok P w K mg base 5 "make_promote" ["line","sequents"] (iY K CL aa9):=bh ["line","sequents"] T.X0 λH vs Q nd c h=>by obtain⟨ln,ss,ps,fo,Ss,M,rfl,b,⟨R,A,h1,d,rfl⟩,k⟩:=h;refine⟨_,yr<|cJ iq (yc (qi T) c<|y2 (pv 0)<|pv 1)<|bH<|y1<|yc (Az T) c<|y2 (bj T.XO)<|yc (ou T) c<|y2 (pv 0)<|pv 1,?_⟩;refine⟨ln,ss,ps,fo,Ss,R,J,b,h1,λH1 D f m g=>?_⟩;refine⟨ln,ss,ps,fo,Ss,A,J,b.same f,d,λa i=>?_⟩;refine⟨33,A,a,J,.inl J,i,by have:=(uV b d).2;lia,λj x l _ b8=>?_⟩;have b8:bF j (ώ A) x:=b8;exact⟨Ge,λe ne=>ow f g (by have:=ox b h1;lia) l b8 ne k⟩
inductive abb(ps:List Nat)(fo:Option Â)(Ss:List È)(M:È):Prop|m(R A:_)(_:AL ps fo Ss R)(_:jT ps Ss A)(_:M=R++[A])
def abc:Ok P w K mg base 5 "make_contract" ["line","sequents"] (iY K CL abb):=bh ["line","sequents"] T.XZ λH vs Q nd c h=>by obtain⟨ln,ss,ps,fo,Ss,M,rfl,b,⟨R,A,h1,f,rfl⟩,k⟩:=h;refine⟨_,yr<|cJ iq (yc (Mm T) c<|y2 (pv 0)<|pv 1)<|bH<|y1<|yc (ou T) c<|y2 (pv 0)<|pv 1,?_⟩;refine⟨ln,ss,ps,fo,Ss,R,J,b,h1,λH1 D d j g=>?_⟩;refine⟨ln,ss,ps,fo,Ss,A,J,b.same d,f,λa i=>?_⟩;exact⟨Ge,λe ne=>ow d g (by have:=Mo b h1;lia) (aa.refl _) i ne k⟩
inductive abd(_:List Nat)(fo:Option Â)(Ss:List È)(M:È):Prop|m(S0 B:_)(_:Ss[0]?=O S0)(_:fo=O B)(_:M=S0++[.whn B])
def abe:Ok P w K mg base 5 "make_weaken" ["line","sequents"] (iY K CL abd):=bh ["line","sequents"] T.XY λH vs Q nd c h=>by obtain⟨ln,ss,ps,fo,Ss,M,rfl,a,⟨S0,B,b,d,rfl⟩,k⟩:=h;refine⟨_,yr<|cJ iq (yl (pv 1) aG)<|bH<|y1<|yc (Az T) c<|y2 (bj T.Aw)<|yf<|pv 0,?_⟩;let f:=T.nL "formula" gn;obtain⟨dx,kd,pl,ql,t,fv,g,u,i⟩:=a.ln;have⟨v,l,y,m⟩:=a.ss;subst d;obtain⟨n,rfl,o⟩:=i;have⟨z,p,q⟩:=m 0 S0 b;refine⟨_,_,l,cb (by rw[aR,p];rfl),CL,dx,_,_,g,T.bb,f,J,63,B,n,J,.inr J,o,by let:=(a.Cd B J).2;lia,λr x s _ b8=>?_⟩;let b8:bF r (.whn B) x:=b8;exact⟨Ge,λe ne=>ow (aa.refl H) q (by let:=(a.ok S0<|bM b).1;omega) s b8 ne k⟩
inductive iX(_:List Nat)(fo:Option Â)(_:List È)(M:È):Prop|m(B:_)(_:fo=O B)(_:M=[B,Æ B])
def abf:Ok P w K mg base 5 "make_axiom" ["line","sequents"] (iY K CL iX):=bh ["line","sequents"] T.XQ λH vs Q nd m h=>by
 obtain⟨ln,ss,ps,fo,Ss,M,rfl,e,⟨B,n,rfl⟩,k⟩:=h;refine⟨_,yr<|bH<|y2 (yf<|pv 0)<|yc (rL T) m<|y1<|yf<|pv 0,?_⟩;have f:=T.nL "formula" gn;have⟨dx,kd,pl,ql,p,fv,g,q,o⟩:=e.ln;subst n;obtain⟨a,rfl,i⟩:=o;refine⟨CL,dx,_,_,g,T.bb,f,J,CL,dx,_,_,g,T.bb,f,J,B,a,J,i,by let:=(e.Cd B J).2;lia,λH1 d b _ Ζ=>?_⟩;refine⟨Ob,λl j=>?_⟩;have sl:aa H1 (ab H1 l<|.ae [.ref a,.ref d]):=aa.ab j;refine k _ l (b.trans sl) (b.free j) ⟨[(a,B),(d,Æ B)],aq,λz c=>?_,J⟩;have c:z=(a,B)\/z=(d,Æ B):=by simpa using c
 rcases c with rfl|rfl
 .exact(i.same b).same sl
 .exact Ζ.same sl
theorem Mq:∀(xs ys:List Ä),Ω (xs.map λx=>Θ (S x)) (ys.map λx=>Θ (S x))=decide (xs=ys)
|[],[]|[],_::_|_::_,[]=>rfl
|x::xs,y::ys=>by
 show(ϙ (.str<|S x) (.str<|S y)&&Ω _ _)=_;rw[Mq xs ys];show((S x==S y)&&_)=_;by_cases h:x=y
 .subst h;by_cases h2:xs=ys
  .subst h2;simp
  .rw[bO h2,vc,bO λz=>h2 (Gj z).2]
 .let:(S x==S y)=false:=gk.mpr λz=>h (gF z);rw[this,kO,bO λz=>h (Gj z).1]
theorem Mr{H:Hp}:∀xs:List Ä,pP K H (xs.map λx=>V.str (S x)) (xs.map λx=>Θ (S x))
|[]=>.nil
|x::xs=>.cons (.str _)<|Mr xs
def abg(x:Ä):Àb (.str (S x))=true:=by show Ìa (S x)=true;unfold Ìa;rw[Array.all_eq_true];intro i hi;obtain⟨b,_,e⟩:=uP (by rw[Ow hi]);rw[e];let:=b.toNat_lt;simp;lia
theorem Ms:∀xs:List Ä,Àc (xs.map λx=>Θ (S x))=true
|[]=>rfl
|x::xs=>by show(Àb (.str<|S x)&&Àc _)=true;rw[Ms xs,abg x];rfl
theorem Mt:∀xs:List Ä,ϑ (xs.map λx=>Θ (S x))=0
|[]=>rfl
|x::xs=>by show max 0 (ϑ _)=0;rw[Mt xs];rfl
def fD(A:Â):PyData:=.tuple<|(wd A).map λx=>Θ<|S x
def sD(Sq:È):PyData:=.list<|Sq.map fD
def bF.dp(h:bF H A a):Dp K H (.ref a) (fD A):=.be (aV.of h.1)<|Mr _
def E8(a:aE A=true)(b:aE B=true):ϙ (fD A) (fD B)=decide (A=B):=by show Ω _ _=_;rw[Mq];exact iC.mpr ⟨Ea a b,λh=>by rw[h]⟩
def Mu(A:Â):Àb (fD A)=true:=Ms _
def Mv(A:Â):Ìb (fD A)=1:=by show ϑ _+1=1;rw[Mt]
def AM(A:Â):Àd (fD A)=true:=by unfold Àd;rw[Mu,Mv];rfl
theorem E9:∀{R T:È},(∀A∈R,aE A=true)->(∀A∈T,aE A=true)->Ω (R.map fD) (T.map fD)=decide (R=T)
|[],[],_,_|[],_::_,_,_|_::_,[],_,_=>rfl
|A::R,B::T,h1,h2=>by
 show(ϙ (fD A) (fD B)&&Ω (R.map fD) (T.map fD))=_;rw[E9 (λX a=>h1 X (by simp[a])) λX a=>h2 X (by simp[a]),E8 (h1 A Gc)<|h2 B Gc];by_cases h:A=B
 .subst h;by_cases b:R=T
  .subst b;simp
  .rw[bO b,vc,bO λz=>b (Gj z).2]
 .rw[bO h,kO,bO λz=>h (Gj z).1]
theorem Mw:∀R:È,Àc (R.map fD)=true
|[]=>rfl
|A::R=>by show(Àb (fD A)&&Àc _)=true;rw[Mw R,Mu A];rfl
theorem Mx:∀R:È,ϑ (R.map fD)<=1
|[]=>by decide
|A::R=>by show max (Ìb<|fD A) (ϑ _)<=1;rw[Mv];have:=Mx R;lia
def AN(R:È):Àd (sD R)=true:=by
 unfold Àd;rw[aS];refine⟨Mw R,bP ?_⟩;show ϑ _+1<=64;let:=Mx R;lia
theorem My{H:Hp}:∀{xs:List FA},(∀x∈xs,bF H x.2 x.1)->pP K H (xs.map λx=>V.ref x.1) ((xs.map (·.2)).map fD)
|[]=>λ_=>.nil
|x::xs=>λh=>.cons (h x Gc).dp<|My λy a=>h y (by simp[a])
def SeqAt.dp(h:SeqAt H sl Sq):Dp K H (.ref sl) (sD Sq):=by obtain⟨xs,e,r,rfl⟩:=h;exact .ae (ao.of e)<|My r
def SeqAt.aE(h:SeqAt H sl Sq):∀A∈Sq,aE A=true:=by obtain⟨xs,e,r,rfl⟩:=h;intro A a;obtain⟨x,b,rfl⟩:=bZ.mp a;exact(r x b).2
def Mz(h:aE A=true):decide (hd A=[63])=ě A:=by
 cases A with
 |atom n a=>
  let:=ir (n:=n) h;refine bO λz=>?_;have z:aw n a=[63]:=z;rw[z]at this;exact absurd this.2 gn
 |_=>rfl
inductive abh(ps:List Nat)(_:Option Â)(Ss:List È)(M:È):Prop|m(p q S0:_)(_:ps=[p,q])(_:Ss=[S0])(_:p<S0.length)(_:q<S0.length)(_:M=(S0.set p<|bu S0 q).set q (bu S0 p))
def MA(h:j<n):kY n (j:Int)=O j:=by unfold kY;rw[if_pos Z,if_pos Z];congr 1
def abi:Ok P w K mg base 5 "make_exchange" ["line","sequents"] (iY K CL abh):=bh ["line","sequents","sequent"] T.X1 λH vs Q nd r h=>by
 obtain⟨ln,ss,ps,fo,Ss,M,rfl,c,⟨p,q,S0,rfl,rfl,e,f,rfl⟩,k⟩:=h;refine⟨_,az (ys 2 nd<|rl IP J T.LS boot_list<|y1<|yl (pv 1) aG)<|az (HS (yc (AI T) r<|y2 (pv 0)<|pv 1)<|HR (pv 2) (yl (yf<|pv 0) aG) C8)<|az (HS (yc (ou T) r<|y2 (pv 0)<|pv 1)<|HR (pv 2) (yl (yf<|pv 0) aG) C8)<|yr<|pv 2,?_⟩;have s:=T.nL "places" gn;refine gg λP0 p0=>?_;obtain⟨dx,kd,pl,ql,L,fv,t,u,N⟩:=c.ln;obtain⟨a0,A,R,B⟩:=c.ss;have⟨C,D,xs,E,F,G⟩:=B 0 S0 J;refine p0 ?_;subst G;rw[aK]at e f;refine⟨_,_,A,cb (by rw[aR,D];rfl),C,_,J,.inl<|ao.of E,λl d=>?_⟩;have g:aa H (ab H l<|.ae<|xs.map λx=>V.ref x.1):=aa.ab d;refine⟨ln,ss,[p,q],fo,_,_,J,c.same g,⟨q,xs.map (·.2),J,J,by rw[aK];exact f,J⟩,λi I=>?_⟩;refine⟨CL,dx,_,_,g _ _ t,T.bb,s,J,_,_,ao.of<|g _ _ u,cb J,l,_,_,p,J,J,aq,MA (by rw[aK];exact e),?_⟩;rw[jm];have n:aa H (ab H l<|.ae<|(xs.map λx=>V.ref x.1).set p (.ref i)):=aa.ab d;refine⟨ln,ss,[p,q],fo,_,_,J,c.same n,⟨p,xs.map (·.2),J,J,by rw[aK];exact e,J⟩,λa a1=>?_⟩;refine⟨CL,dx,_,_,n _ _ t,T.bb,s,J,_,_,ao.of<|n _ _ u,cb J,l,_,_,q,J,J,aq,MA (by rw[FY,aK];exact f),?_⟩;rw[jm];have v:aa H (ab H l<|.ae<|((xs.map λx=>V.ref x.1).set p<|.ref i).set q (.ref a)):=aa.ab d;have y:∀ys o,fg (ab H l<|.ae ys) (ab H l o):=λys o=>by have:=uN (H:=ab H l (.ae ys)) (o:=o) aq;rw[jm]at this;exact this
 refine(k _ l v d ⟨(xs.set p (i,bu (xs.map (·.2)) q)).set q (a,bu (xs.map (·.2)) p),?_,λz b=>?_,?_⟩)
 .rw[aq,xO,xO]
 .rcases xN b with b|rfl
  .rcases xN b with b|rfl
   .exact(F z b).aT<|aa.aT v
   .exact I.aT<|y _ _
  .exact a1.aT<|y _ _
 .rw[xO,xO]
inductive AO(K:Ñ)(CL:À)(xt:List Nat->Option Â->List È->Bool->Prop)(vs:List V)(H:Hp)(Q:VK)(_:XK):Prop|m(ln ss ps fo Ss b:_)(_:vs=[.ref ln,.ref ss])(_:iN K CL H ln ss ps fo Ss)(_:xt ps fo Ss b)(_:∀H',aa H H'->Q (.bl b) H')
inductive abj(ps:List Nat)(_:Option Â)(Ss:List È)(b:Bool):Prop|m(A B:_)(_:jT ps Ss A)(_:qh ps Ss B)(_:b=decide (Æ A=B))
def abk:Ok P w K mg base 5 "cut_fits" ["line","sequents"] (AO K CL abj):=bh ["line","sequents"] T.X2 λH vs Q nd b h=>by obtain⟨ln,ss,ps,fo,Ss,M,rfl,c,⟨A,B,e,i,rfl⟩,k⟩:=h;refine⟨_,yr<|yp (zl<|zN b) (yc (rL T) b<|y1<|yc (ou T) b<|y2 (pv 0)<|pv 1)<|yc (AI T) b<|y2 (pv 0)<|pv 1,?_⟩;refine⟨ln,ss,ps,fo,Ss,A,J,c,e,λa j=>?_⟩;refine⟨A,a,J,j,by have:=(uV c e).2;lia,λH1 d f _ Ζ=>?_⟩;refine⟨ln,ss,ps,fo,Ss,B,J,c.same f,i,λl g=>?_⟩;refine⟨_,_,Ζ.dp,g.dp,AM _,AM _,?_⟩;exact E8 Ζ.2 g.2▸k H1 f
inductive abl(ps:List Nat)(_:Option Â)(Ss:List È)(b:Bool):Prop|m(A B:_)(_:jT ps Ss A)(_:qh ps Ss B)(_:b=(ě A&&decide (A=B)))
def abm:Ok P w K mg base 5 "contract_fits" ["line","sequents"] (AO K CL abl):=bh ["line","sequents","first"] T.X3 λH vs Q nd c h=>by
 obtain⟨ln,ss,ps,fo,Ss,M,rfl,d,⟨A,B,f,g,rfl⟩,k⟩:=h;refine⟨_,az (ys 2 nd<|yc (ou T) c<|y2 (pv 0)<|pv 1)<|yr<|qW (yp e_ (yt (pv 2) aG)<|bj T.Aw)<|pC<|yp (zl<|zN c) (pv 2)<|yc (AI T) c<|y2 (pv 0)<|pv 1,?_⟩;refine⟨ln,ss,ps,fo,Ss,A,J,d,f,λa b=>?_⟩;obtain⟨r,i⟩:=Ab A;have l:(wV<|wd A)[0]?=O (V.str (S (hd A))):=by rw[i];rfl
 refine⟨_,_,aV.of b.1,cb l,J,?_⟩;have kk:=k H<|aa.refl H;refine am ((fR _ _).trans (Mz b.2)) ?_;refine dq (λh1=>?_) λh1=>?_
 .rw[h1,je]at kk;refine⟨ln,ss,ps,fo,Ss,B,J,d,g,λm e=>?_⟩;refine⟨_,_,b.dp,e.dp,AM _,AM _,?_⟩;exact E8 b.2 e.2▸kk
 .have h1:ě A=false:=by simpa using h1
  rw[h1,kO]at kk;exact kk
inductive abn(ps:List Nat)(fo:Option Â)(Ss:List È)(b:Bool):Prop|m(R:_)(_:mK ps fo Ss R)(_:b=R.all ě)
def abo:Ok P w K mg base 5 "promote_fits" ["line","sequents"] (AO K CL abn):=bh ["line","sequents","formula"] T.X4 λH vs Q nd n h=>by
 obtain⟨ln,ss,ps,fo,Ss,M,rfl,f,⟨R,h1,rfl⟩,k⟩:=h;refine⟨_,yr<|eF (zj J) J T.Aq Àa<|y1<|yv 2 nd (dm<|yc (qi T) n<|y2 (pv 0)<|pv 1) λ_ _ _ _ _=>(yp e_ (ug (UR J) (pv 2) aG λ_ _=>J)<|bj T.Aw),?_⟩;refine⟨ln,ss,ps,fo,Ss,R,J,f,h1,λH1 D o A p=>?_⟩;have s:=ox f h1;obtain⟨xs,c,t,rfl⟩:=p;rw[aK]at s;refine⟨D,J,⟨_,ao.of c⟩,λg d=>ui (xs:=xs.map λx=>V.ref x.1) (λi H'=>H'=ab H1 g (.ae<|((xs.map λx=>ě x.2).map V.bl).take i)) J (λi H' _ e=>?_) (λi v H' b e=>?_) λH' e=>?_⟩
 .subst e;exact ao.of (by rw[au<|bv c d];exact c)
 .subst e;obtain⟨x,l,rfl⟩:∃x,xs[i]?=O x/\v=V.ref x.1:=by
   rw[aR]at b;cases q:xs[i]? with
   |none=>rw[q]at b;exact eG b
   |some z=>rw[q]at b;exact⟨z,J,(cZ b).symm⟩
  have rx:=t x<|bM l;have m:=rx.1;obtain⟨r,u⟩:=Ab x.2;have y:(wV<|wd x.2)[0]?=O (V.str<|S (hd x.2)):=by rw[u];rfl
  refine⟨J,?_⟩;simp only[gA,fi];refine⟨_,_,aV.of (by rw[au<|bv m d];exact m),cb y,J,_,aq,?_,?_⟩
  .rw[eh,bn];simp only[aK];omega
  .rw[jm,fR,Mz rx.2,gC (by rw[aR,aR,l];rfl)]
 .subst e;rw[aK,jZ Gc];refine⟨g,xs.map λx=>ě x.2,J,ao.of aq,?_⟩;let:(xs.map λx=>ě x.2).all id=(xs.map (·.2)).all Vanetb.isWhyNot:=by rw[oJ,oJ];rfl
  rw[this];exact k _<|o.trans<|aa.ab d
noncomputable def bp:Ù->Ä
|.ax _=>ň
|.cut _ _ _ _=>ķ
|.tensor _ _ _ _=>Ů
|.par _ _ _=>ů
|.wth _ _ _ _=>ĸ
|.plus1 _ _ _=>Ĺ
|.plus2 _ _ _=>Ξ
|.der _ _=>Ű
|.weak _ _=>Φ
|.con _ _ _=>ĺ
|.prom _ _=>Ļ
|.ex _ _ _=>wEx
def iz{ps:List Ã}{sp:Sp}(G:Ok P w K mg base k x ps sp)(hk:k<=5)(a:mg x=O (.ref f)):Fv P w K mg base 5 f sp:=by
 obtain⟨d,fd,F,b,kp,c⟩:=G;have e:=b.symm.trans a;cases e;exact⟨fd,ps,F.dE hk,kp,c⟩
inductive abp(ps:List Nat)(fo:Option Â)(Ss:List È)(b:Bool):Prop|m(R1 R2:_)(_:mK ps fo Ss R1)(_:AK ps fo Ss R2)(_:b=decide (R1=R2))
def w6(h:A∈wo ps Sq):A∈Sq:=by obtain⟨y,a,rfl⟩:=bZ.mp h;exact OT (r_.mp a).1
def abq:Ok P w K mg base 5 "with_fits" ["line","sequents"] (AO K CL abp):=bh ["line","sequents"] T.X5 λH vs Q nd b h=>by
 obtain⟨ln,ss,ps,fo,Ss,M,rfl,a,⟨e,R2,h1,h2,rfl⟩,k⟩:=h;refine⟨_,yr<|yp (zl<|zN b) (yc (qi T) b<|y2 (pv 0)<|pv 1)<|yc (Ml T) b<|y2 (pv 0)<|pv 1,?_⟩;have i:∀A∈e,aE A=true:=by obtain⟨p,S0,_,c,rfl⟩:=h1;exact λA d=>((a.ok S0<|bM c).2 A<|w6 d).1
 have j:∀A∈R2,aE A=true:=by obtain⟨p,S0,_,c,rfl⟩:=h2;exact λA d=>((a.ok S0<|bM c).2 A<|w6 d).1
 refine⟨ln,ss,ps,fo,Ss,e,J,a,h1,λH1 D f q l=>?_⟩;refine⟨ln,ss,ps,fo,Ss,R2,J,a.same f,h2,λH2 r g s m=>?_⟩;refine⟨_,_,(l.same g).dp,m.dp,AN _,AN _,?_⟩;show Q (.bl<|Ω _ _) _;rw[E9 i j];exact k H2<|f.trans g
structure PN(K:Ñ)(CL:À)(H:Hp)(ln ss:À)(r:Ù)(sq:Nat->È):Prop where
 PD:iN K CL H ln ss (bR r) (ad0 r) ((Ë r).map sq)
 kd:c0 λdx pl ql sl fv=>H ln=O (.aO CL dx (lf (S (bp r)) pl ql fv sl))
 st:bI ((Ë r).map sq) (bR r)=true
def gJ(h:bI [S0] [p]=true):p<S0.length:=by simpa[bI]using h
def eC(h:bI [S0] [p,q]=true):p<S0.length/\q<S0.length/\p≠q:=by simpa[bI,and_assoc]using h
def gq{a:È}{q:Nat}(h:bI [S0,a] [p,q]=true):p<S0.length/\q<a.length:=by simpa[bI]using h
inductive abr(K:Ñ)(CL:À)(vs:List V)(H:Hp)(Q:VK)(_:XK):Prop|m(ln ss r sq:_)(_:vs=[.ref ln,.ref ss])(_:PN K CL H ln ss r sq)(_:∀H' D,aa H H'->H D=U->SeqAt H' D (aeM sq r)->Q (.ref D) H')
def MB:Ok P w K mg base 6 "made_sequent" ["line","sequents"] (abr K CL):=by
 refine gg λP0 p0=>?_;obtain⟨b,m0,m1,m2,m3,m4,m5,m,n,o,s,t,u,e,c,v,x,e2,y,z,C,D,E,F,G,I,f⟩:=T.X8;refine p0 ?_;let a2:=iz (base:=base) (abf T) gn v;let L:=iz (base:=base) (Mp T) gn x;let M:=iz (base:=base) (aaY T) gn e2;let N:=iz (base:=base) (aa0 T) gn y;let a0:=iz (base:=base) (aa2 T) gn z;let R:=iz (base:=base) (aa4 T) gn C;let a1:=iz (base:=base) (aa6 T) gn D;let V:=iz (base:=base) (aa8 T) gn E;let aav:=iz (base:=base) (abe T) gn F;let X:=iz (base:=base) (abc T) gn G;let g:=iz (base:=base) (aba T) gn I;let l:=iz (base:=base) (abi T) gn f;refine bh ["line","sequents","maker"] T.X7 λH vs Q nd Y h=>?_;obtain⟨ln,ss,r,sq,rfl,⟨d,⟨dx,pl,ql,sl,fv,a3⟩,a⟩,k⟩:=h;refine⟨_,az (ys 2 nd<|uu (bj e)<|yf<|pv 0)<|yr<|cv 5 (Y.dE gn) (pv 2)<|y2 (pv 0)<|pv 1,?_⟩;let nk:=T.nL "kind" gn;refine⟨CL,dx,_,_,a3,T.bb,nk,J,?_⟩;cases r with
 |ax A=>exact⟨b,_,.inr<|S<|bp<|.ax A,.ref m0,J,c,J,J,m0,_,J,a2,ln,ss,_,_,_,_,J,d,⟨A,J,J⟩,k⟩
 |cut i p j q=>exact⟨b,_,.inr<|S<|bp<|.cut i p j q,.ref m1,J,c,J,J,m1,_,J,L,ln,ss,_,_,_,_,J,d,⟨_,_,⟨p,sq i,J,J,J⟩,⟨q,sq j,J,J,J⟩,J⟩,k⟩
 |tensor i p j q=>exact⟨b,_,.inr<|S<|bp<|.tensor i p j q,.ref m2,J,c,J,J,m2,_,J,M,ln,ss,_,_,_,_,J,d,⟨_,_,_,⟨_,_,⟨p,sq i,J,J,J⟩,⟨q,sq j,J,J,J⟩,J⟩,⟨p,sq i,J,J,(gq a).1,J⟩,⟨q,sq j,J,J,(gq a).2,J⟩,J⟩,k⟩
 |par i p q=>exact⟨b,_,.inr<|S<|bp<|.par i p q,.ref m3,J,c,J,J,m3,_,J,N,ln,ss,_,_,_,_,J,d,⟨_,_,_,⟨sq i,J,J⟩,⟨p,sq i,J,J,(eC a).1,J⟩,⟨q,sq i,J,J,(eC a).2.1,J⟩,J⟩,k⟩
 |wth i p j q=>exact⟨b,_,.inr<|S<|bp<|.wth i p j q,.ref m4,J,c,J,J,m4,_,J,a0,ln,ss,_,_,_,_,J,d,⟨_,_,_,⟨p,sq i,J,J,J⟩,⟨p,sq i,J,J,(gq a).1,J⟩,⟨q,sq j,J,J,(gq a).2,J⟩,J⟩,k⟩
 |plus1 i p B=>exact⟨b,_,.inr<|S<|bp<|.plus1 i p B,.ref m5,J,c,J,J,m5,_,J,R,ln,ss,_,_,_,_,J,d,⟨_,_,B,⟨p,sq i,J,J,J⟩,⟨p,sq i,J,J,gJ a,J⟩,J,J⟩,k⟩
 |plus2 i p B=>exact⟨b,_,.inr<|S<|bp<|.plus2 i p B,.ref m,J,c,J,J,m,_,J,a1,ln,ss,_,_,_,_,J,d,⟨_,_,B,⟨p,sq i,J,J,J⟩,⟨p,sq i,J,J,gJ a,J⟩,J,J⟩,k⟩
 |der i p=>exact⟨b,_,.inr<|S<|bp<|.der i p,.ref n,J,c,J,J,n,_,J,V,ln,ss,_,_,_,_,J,d,⟨_,_,⟨p,sq i,J,J,J⟩,⟨p,sq i,J,J,gJ a,J⟩,J⟩,k⟩
 |weak i A=>exact⟨b,_,.inr<|S<|bp<|.weak i A,.ref o,J,c,J,J,o,_,J,aav,ln,ss,_,_,_,_,J,d,⟨sq i,A,J,J,J⟩,k⟩
 |con i p q=>exact⟨b,_,.inr<|S<|bp<|.con i p q,.ref s,J,c,J,J,s,_,J,X,ln,ss,_,_,_,_,J,d,⟨_,_,⟨sq i,J,J⟩,⟨p,sq i,J,J,(eC a).1,J⟩,J⟩,k⟩
 |prom i p=>exact⟨b,_,.inr<|S<|bp<|.prom i p,.ref t,J,c,J,J,t,_,J,g,ln,ss,_,_,_,_,J,d,⟨_,_,⟨p,sq i,J,J,J⟩,⟨p,sq i,J,J,gJ a,J⟩,J⟩,k⟩
 |ex i p q=>exact⟨b,_,.inr<|S<|bp<|.ex i p q,.ref u,J,c,J,J,u,_,J,l,ln,ss,_,_,_,_,J,d,⟨p,q,sq i,J,J,(eC a).1,(eC a).2.1,J⟩,k⟩
inductive abu(K:Ñ)(CL:À)(vs:List V)(H:Hp)(Q:VK)(_:XK):Prop|m(ln ss r sq:_)(_:vs=[.ref ln,.ref ss])(_:PN K CL H ln ss r sq)(_:∀H',aa H H'->Q (.bl<|aeF sq r) H')
def abv:Ok P w K mg base 6 "rule_fits" ["line","sequents"] (abu K CL):=by
 obtain⟨a,m0,m1,m2,m3,g,b,l,m,e2,n⟩:=T.X9;let o:=iz (base:=base) (abk T) gn l;let s:=iz (base:=base) (abq T) gn m;let t:=iz (base:=base) (abm T) gn e2;let u:=iz (base:=base) (abo T) gn n;refine bh ["line","sequents","check"] T.X6 λH vs Q nd v h=>?_;obtain⟨ln,ss,r,sq,rfl,⟨e,⟨dx,pl,ql,sl,fv,c⟩,f⟩,k⟩:=h;refine⟨_,az (yw (pw<|zO (yf<|pv 0)<|bj g)<|yr fK)<|az (ys 2 nd<|uu (bj g)<|yf<|pv 0)<|yr<|cv 5 (v.dE gn) (pv 2)<|y2 (pv 0)<|pv 1,?_⟩;let d:=T.nL "kind" gn;refine⟨CL,dx,_,_,c,T.bb,d,J,a,_,.inr<|S<|bp r,J,b,J,?_⟩;cases r with
 |ax A|tensor i p j q|par i p q|plus1 i p B|plus2 i p B|der i p|weak i A|ex i p q=>exact k H<|aa.refl H
 |cut i p j q=>exact⟨CL,dx,_,_,c,T.bb,d,J,a,_,.inr<|S<|bp<|.cut i p j q,.ref m0,J,b,J,J,m0,_,J,o,ln,ss,_,_,_,_,J,e,⟨_,_,⟨p,sq i,J,J,(gq f).1,J⟩,⟨q,sq j,J,J,(gq f).2,J⟩,J⟩,k⟩
 |wth i p j q=>exact⟨CL,dx,_,_,c,T.bb,d,J,a,_,.inr<|S<|bp<|.wth i p j q,.ref m1,J,b,J,J,m1,_,J,s,ln,ss,_,_,_,_,J,e,⟨_,_,⟨p,sq i,J,J,J⟩,⟨q,sq j,J,J,J⟩,J⟩,k⟩
 |con i p q=>exact⟨CL,dx,_,_,c,T.bb,d,J,a,_,.inr<|S<|bp<|.con i p q,.ref m2,J,b,J,J,m2,_,J,t,ln,ss,_,_,_,_,J,e,⟨_,_,⟨p,sq i,J,J,(eC f).1,J⟩,⟨q,sq i,J,J,(eC f).2.1,J⟩,J⟩,k⟩
 |prom i p=>exact⟨CL,dx,_,_,c,T.bb,d,J,a,_,.inr<|S<|bp<|.prom i p,.ref m3,J,b,J,J,m3,_,J,u,ln,ss,_,_,_,_,J,e,⟨_,⟨p,sq i,J,J,J⟩,J⟩,k⟩
def fh(t:Ä):Bool:=t.all λb=>decide<|b<128
def abw{b}(h:b<128):Àe b.toNat=ď b:=by
 let a:∀n:Fin 128,Àe n=ď (ŀ n):=OH;let c:b.toNat<128:=Gf.mp h;let:=a ⟨b.toNat,c⟩;simpa using this
theorem MD:∀{t:Ä},fh t=true->(t.map å).all Àe=t.all ď
|[]=>λ_=>rfl
|b::r=>λh=>by let h:(decide (b<128)&&fh r)=true:=h;rw[aS,du]at h;rw[bz,d7,d7,abw h.1,MD h.2]
def abx(h:fh t=true):ϰ (S t)=(decide (0<t.length)&&t.all ď):=by
 unfold ϰ;rw[bK];show(decide (t.length > 0)&&((t.map å).toArray).all Àe)=_;rw[List.all_toArray,MD h]
def ME:(Û t).isSome=(decide (0<t.length)&&t.all ď&&!(decide (1<t.length)&&t.head? ==O 48)):=by
 unfold Û;cases t with
 |nil=>rfl
 |cons b r=>
  let e:(b::r).isEmpty=false:=J;rw[e,F3,bP<|show 0<(b::r).length by simp,je];cases h1:(b::r).all ď with
  |false=>rfl
  |true=>
   cases h2:(decide (1<(b::r).length)&&(b::r).head? ==O 48)with
   |false|true=>rfl
def E_(h:Û t=O n):0<t.length/\t.all ď=true/\¬(1<t.length/\t.head? =O 48)/\n=t.foldl (λn b=>10*n+(b.toNat-48)) 0:=by
 let a:(Û t).isSome=true:=by rw[h];rfl
 rw[ME]at a;simp only[aS,du,Ëg,afn,OS,gk]at a;refine⟨a.1.1,a.1.2,λz=>a.2.elim (λq=>q z.1) λq=>q z.2,?_⟩;unfold Û at h;split at h
 .cases h
 .exact(cZ h).symm
theorem MF:∀(t:Ä)(a:Nat),(t.map å).foldl (λacc c=>acc*10+(c-48)) a=t.foldl (λn b=>10*n+(b.toNat-48)) a
|[]=>λ_=>rfl
|b::r=>λa=>by rw[bz,jf,jf,BD a 10,MF r]
theorem MG:∀(t:Ä)(a:Nat),a*10^t.length<=t.foldl (λn b=>10*n+(b.toNat-48)) a
|[]=>λa=>by simp
|b::r=>λa=>by rw[jf,aJ,OZ];refine d5 ?_<|MG r _;rw[show a*(10^r.length*10)=(10*a)*10^r.length by rw[BD (10^r.length) 10,<-Ìc,BD a 10]];exact afp _ Z
theorem MH:∀(t:Ä)(a:Nat),t.all ď=true->t.foldl (λn b=>10*n+(b.toNat-48)) a<(a+1)*10^t.length
|[]=>λa _=>by simp
|b::r=>λa h=>by
 rw[d7,aS]at h;rw[jf,aJ,OZ];refine ia (MH r _ h.2) ?_;have c:b.toNat<=57:=by let:=h.1;unfold ď at this;simp only[aS,du]at this;exact Gk.mp this.2
 rw[show(a+1)*(10^r.length*10)=(10*(a+1))*10^r.length by rw[BD (10^r.length) 10,<-Ìc,BD (a+1) 10]];exact afp _ Z
def aby(h:Û t=O n)(a:t.length<=9):bC n=n:=by obtain⟨_,Β,_,rfl⟩:=E_ h;let:=MH t 0 Β;have p:10^t.length<=10^9:=afq gn a;unfold bC;rw[aj Z]
def abz(h:Û t=O n)(a:9<t.length):bC n=1000000000:=by
 obtain⟨_,Β,c,rfl⟩:=E_ h;match t,a,Β,c with
 |b::r,a,Β,c=>
  have d:b≠48:=λz=>c ⟨Z,by rw[z];rfl⟩;rw[d7,aS]at Β;have e:48<=b.toNat:=by let:=Β.1;unfold ď at this;simp only[aS,du]at this;exact Gk.mp this.1
  have cu:b.toNat≠48:=λz=>d<|oQ.mp z;have g:=MG r<|10*0+(b.toNat-48);simp only[aJ]at a;have p:10^9<=10^r.length:=afq gn Z;have q:10^r.length<=(10*0+(b.toNat-48))*10^r.length:=Nat.le_mul_of_pos_left _ Z;unfold bC;rw[ai];rw[jf];lia
inductive abA(vs:List V)(H:Hp)(Q:VK)(_:XK):Prop|m(t:_)(_:vs=[.str<|S t])(_:t.length<=100000)(_:fh t=true)(_:Q (.bl (Û t).isSome) H)
def abB:Ok P w K mg base 1 "is_decimal" ["text"] abA:=bh ["text"] T.Yc λH vs Q nd g h=>by
 obtain⟨t,rfl,i,d,k⟩:=h;have e:(S t).length<=sizeLine:=by rw[bK,bn];lia
 rw[ME]at k;refine⟨_,yr<|qW (T9 PySem.F.slot_str_isdigit PySem.F.type_str_isdigit T6<|pv 0)<|pC<|Q6 (yp e_ (pv 0) cz)<|pC<|yp ki (yi (pv 0) aG) cz,?_⟩;refine⟨⟨_,J⟩,_,J,J,dO,?_⟩;rw[abx d];refine dq (λh1=>?_) λh1=>?_
 .rw[h1,je]at k;rw[aS,du]at h1;refine⟨J,?_⟩;show if decide (V.str (S t)=V.str (S [48]))=true then _ else _;rw[fR];match t,h1,k with
  |b::r,h1,k=>
   by_cases h0:b::r=[48]
   .rw[aj<|bP h0];rw[h0]at k;exact k
   .rw[ai (by rw[bO h0];decide)];refine⟨S (b::r),0,b.toNat,J,J,e,cb<|uQ J,J,?_⟩;show Q (.bl<|!decide (V.str (S [b])=V.str (S [48]))) H;rw[fR];have:(!decide ([b]=[48]))=(!(decide (1<(b::r).length)&&(b::r).head? ==O 48)):=by
     by_cases a:b=48
     .subst a;cases r with
      |nil=>exact absurd J h0
      |cons c s=>simp
     .have f:decide ([b]=[48])=false:=bO (by simpa using a);have e2:((b::r).head? ==O 48)=false:=gk.mpr (by simpa using a);rw[f,e2,vc]
    exact this▸k
 .have h1:(decide (0<t.length)&&t.all ď)=false:=by simpa using h1
  rw[h1,kO]at k;exact k
inductive abC(vs:List V)(H:Hp)(Q:VK)(_:XK):Prop|m(t n:_)(_:vs=[.str<|S t])(_:t.length<=100000)(_:Û t=O n)(_:Q (.int (bC n)) H)
def abD:Ok P w K mg base 1 "decimal_value" ["text"] abC:=bh ["text"] T.Yd λH vs Q nd p h=>by
 obtain⟨t,n,rfl,q,a,k⟩:=h;have f:(S t).length<=sizeLine:=by rw[bK,bn];lia
 refine⟨_,az (yw (yq q0 (eF (pN) J T.cS mT<|y1<|pv 0)<|bj T.Ya)<|yr<|bj T.Yb)<|yr<|rl T7 J T.X_ boot_int<|y1<|pv 0,?_⟩;refine⟨S t,J,f,?_⟩;rw[bK];refine dq (λh1=>?_) λh1=>?_
 .have h1:=dR h1;rw[abz a Z]at k;exact k
 .have g:t.length<=9:=by
   by_cases z:t.length<=9
   .exact z
   .exact absurd (bP Z) h1
  rw[aby a g]at k;obtain⟨i,j,_,l⟩:=E_ a;have Β:NumText.AllDigits (S t).cps.toList:=by intro c d;rw[oq]at d;obtain⟨b,m,rfl⟩:=bZ.mp d;have:=dQ.mp j b m;unfold ď at this;simp only[aS,du]at this;exact⟨Gk.mp this.1,Gk.mp this.2⟩
  have ne:(S t).cps.toList≠[]:=by
   rw[oq];intro z;have:t=[]:=by simpa using z
   subst this;simp at i
  have e:=PySem.intText_digits Β ne (by rw[bK];lia);have o:Ìd (S t).cps.toList=n:=by unfold Ìd;rw[oq,MF,l]
  rw[o]at e;exact⟨S t,_,J,e,by rw[bK];lia,k⟩
def cy:Text:=lower++uL++EL
def kn(b:UInt8):Bool:=decide (b∈cy)
def oy:wU kn where
 bp:=λb h=>by let:=rN (p:=λb=>!Ü b||kn b) (q:=λ_=>true) OH b;simpa[h]using this
 sign:=λb h=>by let:=rN (p:=λb=>!Ą b||kn b) (q:=λ_=>true) OH b;simpa[h]using this
 KW:=OH
 uD:=OH
def abE:kn 10=true:=by decide+kernel
theorem Fa:∀t:Ä,fh (bD kn t)=true
|[]=>rfl
|b::r=>by
 let a:=rN (p:=λb=>decide<|(if kn b=true then b else 35)<128) (q:=λ_=>true) OH b;let c:=Fa r;show(decide ((if kn b=true then b else 35)<128)&&fh (bD kn r))=true;rw[c,Óe];exact a
def mL(sep:Ä):List Ä->Ä
|[]=>[]
|[x]=>x
|x::r=>x++sep++mL sep r
def AQ(a:Ä):∀b,Ϯ (S a) (b.map S)=S (mL a b):=λb=>by
 rw[TL.T0];induction b with
 |nil=>rfl
 |cons x r c=>
  cases r with
  |nil=>rfl
  |cons y q=>show S x++S a++Str.join (S a) ((y::q).map S)=S (x++a++mL a (y::q));rw[c,iw,iw]
theorem Fb:∀a:List Ä,mL [] a=a.flatten
|[]=>rfl
|[x]=>by simp[mL]
|x::y::q=>by show x++[]++mL [] (y::q)=_;rw[Fb (y::q)];simp
theorem MI:∀t:Ä,(t.map λb=>[b]).flatten=t
|[]=>rfl
|b::r=>by rw[bz,List.flatten_cons,MI r];rfl
def tK(i:Nat)(ag:List (aL×V)):Prop:=ag.length<=i/\∀b,bT ag (.inl b.toNat)=if b∈cy.take i then O (.str<|S [b])else U
def tK.zero:tK 0 []:=⟨aN _,λb=>by rw[ai Gc];rfl⟩
def tK.g_{b}(h:tK i ag)(a:cy[i]?=O b):tK (i+1) (de ag (.inl (b.toNat:Int)) (.str (S [b]))):=by
 refine⟨d5 (pS _ _ _)<|Nat.succ_le_succ h.1,λc=>?_⟩;have d:cy.take (i+1)=cy.take i++[b]:=by rw[List.take_add_one,a];rfl
 rw[wH,h.2 c,d];by_cases e:c=b
 .subst e;rw[aj J,aj Gc]
 .let ne:¬(ü c.toNat:aL)=ü (b.toNat:Int):=λz=>e (oQ.mp (by lia));rw[ai ne];by_cases m:c∈cy.take i
  .rw[aj m,aj (by simp[m])]
  .rw[ai m,ai (by simp[m,e])]
inductive abF(K:Ñ)(vs:List V)(H:Hp)(Q:VK)(_:XK):Prop|m(l t:_)(_:vs=[.ref l])(_:t.length<=100000)(_:H l=O (.ae<|t.map λb=>V.int b.toNat))(_:∀H',aa H H'->Q (.str<|S<|bD kn t) H')
def rQ:Ok P w K mg base 1 "text_of" ["numbers"] (abF K):=bh ["numbers","signs","sign","number"] T.Yg λH vs Q nd q h=>by
 obtain⟨l,t,rfl,F,f,k⟩:=h;refine⟨_,az (ys 1 nd zx)<|az (yo (zy<|cJ lh (cJ lh (bj T.Ar)<|bj T.EM)<|bj T.Ye) (yx 2 nd)<|bS<|wI (jp q) (pv 1) (eF (Ik) J T.LO boot_ord<|y1<|pv 2) (pv 2) J)<|yr<|zE cz<|yv 3 nd (dm<|pv 0) λ_ _ _ _ _=>(Ju (jp q) (pv 1) (pv 3) (bj T.Yf) (by constructor<;>rfl)),?_⟩;intro p j;let n:l≠p:=by
  intro e;rw[e,j]at f;exact eG f
 refine⟨_,_,J,J,gn,_,_,J,J,gn,_,J,?_⟩;rw[iw,iw];refine UB (λi z H'=>c3 λag x y=>z=[O<|.ref l,O<|.ref p,x,y]/\tK i ag/\H'=ab H p (.dK ag)) ⟨[],U,U,J,tK.zero,J⟩ (λi c z H' s e=>?_) λz H' e=>?_
 .obtain⟨ag,x,y,rfl,tb,rfl⟩:=e;obtain⟨b,a,rfl⟩:=uP s;let a0:i<cy.length:=(b9.mp a).1;let A:cy.length=49:=OH;refine⟨_,J,J,p,_,J,lp.k (k:=.inl (b.toNat:Int)) aq (by rw[bn];let:=tb.1;lia),?_⟩;rw[jm];exact⟨_,_,_,J,tb.g_ a,J⟩
 .obtain⟨ag,x,y,rfl,tb,rfl⟩:=e;rw[rO]at tb;let full:∀b,bT ag (.inl b.toNat)=if b∈cy then O (.str<|S [b])else none:=λb=>by let:=tb.2 b;rw[show(lower++uL++EL)=cy from J,jZ<|aN _]at this;exact this
  let mk:UInt8->V:=λb=>.str<|S [if kn b=true then b else 35];refine⟨⟨_,J⟩,l,J,⟨_,ao.of (by rw[au n];exact f)⟩,λD d=>?_⟩;let G:H D=none:=by
   by_cases e:D=p
   .exact e▸j
   .rw[au e]at d;exact d
  let B:D≠p:=λe=>by rw[e,aq]at d;cases d
  let o:l≠D:=λe=>by rw[<-e,au n,f]at d;cases d
  refine ui (xs:=t.map λb=>V.int (b.toNat:Int)) (λi H'=>H'=ab (ab H p<|.dK ag) D (.ae<|(t.map mk).take i)) J (λi H' hi e=>?_) (λi v H' g e=>?_) λH' e=>?_
  .subst e;exact ao.of (au o▸au n▸f)
  .subst e;rw[aR]at g;cases a:t[i]? with
   |none=>rw[a]at g;cases g
   |some b=>
    rw[a]at g;cases g;let Β:(ab (ab H p<|.dK ag) D<|.ae<|(t.map mk).take i) p=O (.dK ag):=by rw[au<|cB B,aq]
    refine⟨J,?_⟩;simp only[gA,fi];refine⟨p,J,.inl ⟨ag,.inl Β⟩,_,fE.k (k:=.inl (b.toNat:Int)) Β,_,aq,?_,?_⟩
    .rw[eh,bn,aK];lia
    .rw[jm,gC (by rw[aR,a];rfl),full b];by_cases m:b∈cy
     .let e:mk b=.str (S [b]):=by show V.str (S [if kn b=true then b else 35])=_;rw[aj<|show kn b=true from bP m]
      rw[aj m,e];rfl
     .let e:mk b=.str (S [35]):=by show V.str (S [if kn b=true then b else 35])=_;rw[ai (by unfold kn;rw[bO m];decide)]
      rw[ai m,e];rfl
  .subst e;rw[aK,jZ Gc];let C:t.map mk=(((bD kn t).map λb=>[b]).map S).map V.str:=by unfold bD;rw[cV,cV,cV];rfl
   rw[C];refine⟨S [],D,((bD kn t).map λb=>[b]).map S,J,J,.inl<|ao.of aq,?_,?_⟩
   .let:∀u:Ä,(((u.map λb=>[b]).map S).map (·.length)).sum=u.length:=by
     intro u;induction u with
     |nil=>rfl
     |cons b r E=>rw[bz,bz,bz,l9,E,bK,aJ];simp;lia
    rw[this,bK,zZ];simp;lia
   .rw[AQ,Fb,MI];exact k _<|(aa.ab j).trans<|aa.ab d
open PySem.StrLaws PySem.Builtin.Str
theorem Fc(x y:Ã)(u q o:Nat)(b:1<=y.length):∀(n i:Nat)(z:Array Nat×Nat),ChainG x y u o z.1.toList z.2->(z.1.size<q->∀k,z.2<=k->k<i->¬At x y u k)->ChainG x y u o (forIn (Λ i n) z (occBody x y u q)).run.1.toList (forIn (Λ i n) z (occBody x y u q)).run.2/\((forIn (Λ i n) z (occBody x y u q)).run.1.size<q->∀k,(forIn (Λ i n) z (occBody x y u q)).run.2<=k->k<i+n->¬At x y u k)
|0=>λi z g no=>⟨g,no⟩
|n+1=>λi z g no=>by
 rw[OK];rw[Bk];unfold occBody;rw[show i+(n+1)=(i+1)+n by lia]
 split
 next c=>
  refine Fc x y u q o b n (i+1) _ ?_ λ_ k Γ Ε=>?_
  .show ChainG x y u o (z.1.push i).toList (i+y.length);rw[Array.toList_push];exact chainG_snoc g c.1.1.2 ⟨c.1.2,c.2⟩<|no c.1.1.1
  .let Γ:i+y.length<=k:=Γ;lia
 next c=>
  refine Fc x y u q o b n (i+1) _ g λl k Γ Ε a=>?_;by_cases e:k=i
  .rw[e]at a Γ;exact c ⟨⟨⟨l,Γ⟩,a.1⟩,a.2⟩
  .exact no l k Γ Z a
def abG(x y:Ã)(b:1<=y.length)(n:Nat):∃f,ChainG x y x.length 0 (occurrences x y 0 x.length n) f/\((occurrences x y 0 x.length n).length<n->∀k,f<=k->¬At x y x.length k):=by rw[occ_eq];obtain⟨c,d⟩:=Fc x y x.length n 0 b (x.length+1-0) 0 ((#[]),0) J (λ_ k _ h=>by lia);refine⟨_,c,λl k Γ a=>d ?_ k Γ (by have:=a.1;lia) a⟩;rw[qw]at l;exact l
def Fd(t:Ä)(a b:Nat):strSub (S t) a b=S ((t.drop a).take (b-a)):=by let h:=strSub_toList (S t) a b;rw[oq]at h;let e:(strSub (S t) a b)=⟨(strSub (S t) a b).cps.toList.toArray⟩:=J;rw[e,h,<-By,<-BC];rfl
def Fe{c}:At (S t) (S [c]) (S t).length k↔t[k]?=O c:=by
 refine Iff.trans (subAt_one (S t) c.toNat k) ?_;rw[oq,aR];cases t[k]? with
 |none=>simp
 |some b=>
  refine⟨λh=>?_,λh=>?_⟩
  .rw[oQ.mp<|cZ h]
  .rw[cZ h];rfl
theorem MJ:∀{u:Ä}{j:Nat},u[j]?=O 32->(∀i,i<j->u[i]?≠O 32)->(u.any λb=>b==32)=true/\u.takeWhile (λb=>b !=32)=u.take j/\(u.dropWhile λb=>b !=32).drop 1=u.drop (j+1)
|[],j=>λh _=>by simp at h
|b::r,0=>λh _=>by cases h;simp
|b::r,j+1=>λh a=>by
 let c:b≠32:=λe=>a 0 Z (by rw[e];rfl);obtain⟨h1,h2,d⟩:=MJ (u:=r) (j:=j) h λi hi=>a (i+1) Z;let e:(b !=32)=true:=xL.mpr c;refine⟨by rw[kP,h1,OX],?_,?_⟩
 .rw[oN,aj e,h2,vf]
 .rw[vm,aj e,d,Gg]
theorem MK{t:Ä}:∀(d:List Nat)(a f n:Nat),d.length<=n->ChainG (S t) (S [32]) (S t).length a d f->(d.length<n->∀k,f<=k->¬At (S t) (S [32]) (S t).length k)->partsFrom (S t) (S [32]).length a d=(df n (t.drop a)).map S
|[],a,f,n=>λ_ h g=>by
 have e:f=a:=h;subst e;have j:partsFrom (S t) (S [32]).length f []=[S (t.drop f)]:=by show[strSub (S t) f (S t).length]=_;rw[Fd,bK,jZ (by rw[ib];lia)]
 rw[j];cases n with
 |zero=>rfl
 |succ n=>
  have:¬((t.drop f).any λb=>b==32)=true:=by intro z;rw[l7]at z;obtain⟨b,l,e⟩:=z;have e:=eq_of_beq e;subst e;obtain⟨i,hi⟩:=OU l;rw[xQ]at hi;exact g Gc (f+i) Z<|Fe.mpr hi
  show _=(if((t.drop f).any λb=>b==32)=true then _ else[t.drop f]).map S;rw[ai this];rfl
|c::r,a,f,0=>λh _ _=>by simp at h
|c::r,a,f,n+1=>λm h g=>by
 obtain⟨h1,h2,o,p⟩:=h;have s:=Fe.mp h2;have q:(t.drop a)[c-a]?=O 32:=by rw[xQ,show a+(c-a)=c by lia];exact s
 obtain⟨u,p2,v⟩:=MJ q λi hi e=>by rw[xQ]at e;exact o (a+i) Z Z<|Fe.mpr e
 have w:=MK r (c+(S [32]).length) f n (by simpa using m) p λz=>g (by simpa using z);show strSub (S t) a c::partsFrom (S t) (S [32]).length (c+(S [32]).length) r=(if((t.drop a).any λb=>b==32)=true then _::_ else _).map S;rw[aj u,p2,v,w,Fd,bz,so];have:a+(c-a+1)=c+(S [32]).length:=by rw[bK];simp;lia
 rw[this]
def abH(t:Ä)(n:Nat):Ŗ (S t) (S [32]) (n:Int)=(df n t).map S:=by
 have c:ŭ (S t) n=n:=by unfold ŭ;rw[ai Z];simp
 have hk:decide (Ě (S t)<Ě (S [32]))=false:=bO<|TL.JS OH;unfold Ŗ;rw[c,hk,xB];by_cases h0:(S t).length<(S [32]).length
 .rw[aj<|bP h0];rw[bK,bK]at h0;have:t=[]:=by
   cases t with
   |nil=>rfl
   |cons b r=>simp at h0
  subst this;cases n<;>rfl
 .rw[ai (by rw[bO h0];decide)];obtain⟨f,g,d⟩:=abG (S t) (S [32]) (by rw[bK];decide) n;have a:=MK _ 0 f n (occ_length_le _ _ _ _ _) g d;rw[jb]at a;rw[partsBetween_eq,a];split
  .next he=>
   have:occurrences (S t) (S [32]) 0 (S t).length n=[]:=Éa.mp he;rw[this]at a;rw[<-a];show _=[strSub (S t) 0 (S t).length];rw[Fd,bK,xG,jb,l_]
  .rfl
def rR(t:Ä):TL.tl (S t)=t.map UInt8.toNat:=oq t
def ML(c b:UInt8)(r:Ä):Ú c (b::r)=if b=c then[]::Ú c r else(b::(Ú c r).headD [])::(Ú c r).tail:=by
 let cu:Ú c r≠[]:=rG c r;show(if b=c then _ else _)=_;split
 .rfl
 .match Ú c r,cu with
  |_::_,_=>rfl
theorem Ff(c:UInt8):∀(t:Ä)(acc:List Nat),TL.fm [c.toNat] 0 acc (t.map å)=(acc++((Ú c t).headD []).map å)::((Ú c t).tail).map (·.map å)
|[],acc=>by
 rw[mP,TL.zC];show[acc]=(acc++[])::[];rw[jW]
|b::r,acc=>by
 rw[ML,bz];by_cases e:b=c
 .subst e;let cu:Ú b r≠[]:=rG b r;rw[aj J,TL.JJ (by show([b.toNat]==[b.toNat])=true;simp)];show acc::TL.fm [b.toNat] 0 [] (r.map å)=(acc++[])::(Ú b r).map (·.map å);rw[Ff b r [],jW,vg];match Ú b r,cu with
  |_::_,_=>rfl
 .rw[ai e,TL.JK<|TL.JN [] _ λz=>e<|oQ.mp z,Ff c r (acc++[b.toNat])];show _=(acc++(b::(Ú c r).headD []).map å)::((Ú c r).tail).map (·.map å);rw[bz,jc];rfl
def MM(t:Ä)(c:UInt8)(a:c.toNat<256):œ (S t) (S [c])=(Ú c t).map S:=by
 refine TL.JI ?_;rw[TL.TV (S t) (S [c]) (by rw[rR];simp) (TL.JS (by show(#[c.toNat]:Array Nat).all (· < 256)=true;simpa using a))];rw[rR,rR];show TL.fm [c.toNat] 0 [] _=_;rw[Ff c t []];let cu:Ú c t≠[]:=rG c t;match Ú c t,cu with
 |p::ps,_=>
  rw[bz,bz,cV,rR];show(p.map å)::ps.map (·.map å)=_;rw[show(TL.tl∘S)=(λt:Ä=>t.map å)from qv rR]
def abI(t:Ä):(Ď (S t) (S [32])).1=S (t.takeWhile λb=>b !=32):=by
 have c:TL.tl (S [32])=32::[]:=J;have d:∀u:Ä,¬(32:Nat)∈TL.tl (S<|u.takeWhile λb=>b !=32):=by
  intro u f;rw[rR]at f;obtain⟨b,a,e⟩:=bZ.mp f;have:(b !=32)=true:=by have:=List.all_takeWhile (l:=u) (p:=λb=>b !=32);exact dQ.mp this b a
  exact xL.mp this<|oQ.mp e
 cases Β:t.dropWhile λb=>b !=32 with
 |nil=>
  have e:t.takeWhile (λb=>b !=32)=t:=by have:=Gi (p:=λb=>b !=32) (l:=t);rw[Β,jW]at this;exact this
  have:=d t;rw[e]at this;rw[TL.T2 c this,e]
 |cons b r=>
  have a:b=32:=by have:=List.head_dropWhile_not (p:=λb=>b !=32) (l:=t) (by rw[Β];simp);simp only[Β,List.head_cons]at this;simpa using this
  subst a;have e:S t=S (t.takeWhile λb=>b !=32)++S [32]++S r:=by rw[iw,iw];have:=Gi (p:=λb=>b !=32) (l:=t);rw[Β]at this;rw[jc];exact cw S this.symm
  rw[e,TL.T1 c<|d t]
def MN(h:n<10):[n.digitChar].map Äd=[ŀ (48+n)].map UInt8.toNat:=by
 let a:∀k:Fin 10,[k.val.digitChar].map Äd=[ŀ (48+k.val)].map UInt8.toNat:=OH;exact a ⟨n,h⟩
theorem MO:∀(f n:Nat),n<f->(Ìe 10 n).map Äd=(Ϝ f n).map å
|0=>λn h=>by lia
|f+1=>λn h=>by
 by_cases a:n<10
 .rw[afr a,MN a];unfold Ϝ;rw[aj a]
 .let e:=Nat.toDigits_append_toDigits (b:=10) (n:=n / 10) (d:=n % 10) gn Z Z;rw[show 10*(n / 10)+n % 10=n by lia,afr<|show n % 10<10 by lia]at e;rw[<-e,bU,MO f (n / 10) Z,MN<|show n % 10<10 by lia,<-bU];conv=>rhs;unfold Ϝ
  rw[ai a]
def AR(n:Nat):(toString (n:Int):Ã)=S (é n):=by
 refine TL.wJ ?_;show TL.tl (ę<|toString (n:Int))=_;rw[TL.TK,rR];let e:(toString (n:Int)).toList=Ìe 10 n:=by show(Nat.repr n).toList=_;unfold Nat.repr;exact String.toList_ofList
 rw[e];exact MO (n+1) n Z
theorem MP:∀a:List Ä,mL [32] a=Ŷ a
|[]|[x]=>rfl
|x::y::q=>by show x++[32]++mL [32] (y::q)=x++32::Ŷ (y::q);rw[MP (y::q),jc];rfl
structure uW(CL:À)(H:Hp)(ln dx pl ql sl:À)(kd:Ã)(ps qs:List Nat)(fo:Option Â):Prop where
 at_:∃fv,H ln=O (.aO CL dx (lf kd pl ql fv sl))/\FV H fv fo
 dJ:H pl=O (.ae (ps.map λ(n:Nat)=>V.int n))
 hql:H ql=O (.ae (qs.map λ(n:Nat)=>V.int n))
 qj:H sl=O (.ae [])
 il:pl≠ql
 qk:pl≠sl
 qm:ql≠sl
inductive abJ(CL:À)(vs:List V)(H:Hp)(Q:VK)(_:XK):Prop|m(ln dx pl ql sl:À)(kd:Ã)(fv:V)(_:vs=[.ref ln,.str kd,.ref pl,.ref ql,fv,.ref sl])(_:H ln=O (.aO CL dx []))(_:∀(H':Hp),H' ln=O (.aO CL dx<|lf kd pl ql fv sl)->(∀b o,H b=O o->b≠ln->H' b=O o)->Q .aQ H')
def AS:qH P w K mg base 1 "Line" CL ["self","kind","premises","places","formula","sequent"] (abJ CL):=yC ["self","kind","premises","places","formula","sequent"] T.Yh λH vs Q nd l h=>by
 obtain⟨r,dx,pl,ql,sl,kd,fv,rfl,c,k⟩:=h;refine⟨_,az (yu (pv 0)<|pv 1)<|az (yu (pv 0)<|pv 2)<|az (yu (pv 0)<|pv 3)<|az (yu (pv 0)<|pv 4)<|bS<|yu (pv 0)<|pv 5,?_⟩;let d:=T.nL "kind" gn;let f:=T.nL "premises" gn;let g:=T.nL "places" gn;let i:=T.nL "formula" gn;let j:=T.nL "sequent" gn;refine⟨CL,dx,_,c,T.bb,d,by decide,?_⟩;refine⟨CL,dx,_,aq,T.bb,f,by show 1<1000;decide,?_⟩;refine⟨CL,dx,_,aq,T.bb,g,Oc,?_⟩;refine⟨CL,dx,_,aq,T.bb,i,by show 3<1000;decide,?_⟩;refine⟨CL,dx,_,aq,T.bb,j,by show 4<1000;decide,?_⟩;refine k _ aq λb o e a=>?_;rw[au a,au a,au a,au a,au a];exact e
def Kl(ln pl ql:À)(H H':Hp):Prop:=∀b o,H b=O o->b≠ln->b≠pl->b≠ql->H' b=O o
def xu(c:UInt8):Bool:=decide (c∈([105,106]:Ä))
inductive abK(CL:À)(vs:List V)(H:Hp)(Q:VK)(_:XK):Prop|m(ln dx pl ql sl kd ps qs fo c t:_)(_:vs=[.ref ln,.str<|S [c],.str<|S t])(_:uW CL H ln dx pl ql sl kd ps qs fo)(_:t.length<=100000)(_:fh t=true)(_:ps.length<=100)(_:qs.length<=100)(_:(c=65->∀H',Kl ln pl ql H H'->uW CL H' ln dx pl ql sl kd ps qs (ß t)->Q (.bl (ß t).isSome) H'))(_:(c≠65->Û t=U->Q (.bl false) H))(_:(c≠65->∀n,Û t=O n->∀H',Kl ln pl ql H H'->uW CL H' ln dx pl ql sl kd (if xu c=true then ps++[bC n]else ps) (if xu c=true then qs else qs++[bC n]) fo->Q (.bl true) H'))
def MQ{gv:V}:c_ "formula" gv (lf kd pl ql fv sl)=lf kd pl ql gv sl:=rfl
def abL(T:Tx P w K mg CR CL CP CF CT):cX P w K mg base 12 CL "take_field" ["self","letter","text"] (abK CL):=dB ["self","letter","text","row"] T.Yi λH vs Q nd p h=>by
 obtain⟨ln,dx,pl,ql,sl,kd,ps,qs,fo,c,t,rfl,⟨⟨fv,h1,h2⟩,f,g,j,il,qk,qm⟩,l,y,D,E,Γ,Ε,v⟩:=h;have m:=T.nL "formula" gn;have B:=T.nL "premises" gn;have C:=T.nL "places" gn;have r:ln≠pl:=aY h1 f nofun;have s:ln≠ql:=aY h1 g nofun;have x:ln≠sl:=aY h1 j nofun;refine⟨_,az (yw (yq e_ (pv 1) cz) (az (yu (pv 0) (yc (E4 T) p (y1 (pv 2)))) (yr (yp Rv (yf (pv 0)) cH)))) (az (yw (gy (d_ (yc (abB T) p (y1 (pv 2))))) (yr fK)) (az (ys 3 nd (j_ (yq wM (pv 1) cz) (yf (pv 0)) (yf (pv 0)))) (az (yA (pv 3) (yc (abD T) p (y1 (pv 2)))) (yr fK)))),?_⟩;refine⟨J,?_⟩;show if decide (V.str (S [c])=V.str (S [65]))=true then _ else _;rw[fR];by_cases i:c=65
 .rw[aj (bP (by rw[i]))];refine⟨t,J,l,λe H1 d=>?_,λA e H1 a d b8=>?_⟩
  .refine⟨CL,dx,_,d _ _ h1,T.bb,m,by show 5<1000;decide,?_⟩;rw[MQ];refine⟨CL,dx,_,_,aq,T.bb,m,J,J,?_⟩;have kk:=Γ i (ab H1 ln (.aO CL dx (lf kd pl ql .aQ sl))) (λb o e u _ _=>au u▸d _ _ e);rw[e]at kk;exact kk ⟨⟨_,aq,J⟩,au r.symm▸d _ _ f,au s.symm▸d _ _ g,au x.symm▸d _ _ j,il,qk,qm⟩
  .refine⟨CL,dx,_,d _ _ h1,T.bb,m,by show 5<1000;decide,?_⟩;rw[MQ];refine⟨CL,dx,_,_,aq,T.bb,m,J,J,?_⟩;have kk:=Γ i (ab H1 ln (.aO CL dx (lf kd pl ql (.ref a) sl))) (λb o e u _ _=>au u▸d _ _ e);rw[e]at kk;have st:fg H1 (ab H1 ln (.aO CL dx (lf kd pl ql (.ref a) sl))):=λb o e z=>by
    by_cases q:b=ln
    .subst q;rw[d _ _ h1]at e;cases e;exact z.elim
    .exact au q▸e
   exact kk ⟨⟨_,aq,⟨a,J,b8.aT st⟩⟩,au r.symm▸d _ _ f,au s.symm▸d _ _ g,au x.symm▸d _ _ j,il,qk,qm⟩
 .rw[ai (by rw[bO (λz=>i (by simpa using z))];decide)];refine⟨t,J,l,y,?_⟩;cases k:Û t with
  |none=>exact(Ε i k)
  |some n=>
   refine⟨c.toNat,_,J,J,?_⟩;rw[show(ę "ij")=S [105,106]from J,xk];cases hi:decide (c∈([105,106]:Ä))with
   |true=>
    have hi:xu c=true:=hi;have st:fg H (ab H pl (.ae ((ps++[bC n]).map λ(n:Nat)=>V.int n))):=λb o e z=>by
     by_cases q:b=pl
     .subst q;rw[f]at e;cases e;exact z.elim
     .exact au q▸e
    have kk:=v i n k (ab H pl (.ae ((ps++[bC n]).map λ(n:Nat)=>V.int n))) (λb o e _ q _=>au q▸e);rw[aj hi,aj hi]at kk;refine⟨CL,dx,_,_,h1,T.bb,B,J,?_⟩;refine⟨.inl ⟨J,_,ao.of f⟩,t,n,J,l,k,pl,_,_,J,J,f,by rw[aK,bn];lia,?_⟩;rw[show((ps.map λ(n:Nat)=>V.int n)++[V.int (bC n)])=(ps++[bC n]).map λ(n:Nat)=>V.int n by simp];exact kk ⟨⟨fv,au r▸h1,h2.aT st⟩,aq,au il.symm▸g,au qk.symm▸j,il,qk,qm⟩
   |false=>
    have hi:¬xu c=true:=by unfold xu;rw[hi];decide
    have st:fg H (ab H ql (.ae ((qs++[bC n]).map λ(n:Nat)=>V.int n))):=λb o e z=>by
     by_cases q:b=ql
     .subst q;rw[g]at e;cases e;exact z.elim
     .exact au q▸e
    have kk:=v i n k (ab H ql (.ae ((qs++[bC n]).map λ(n:Nat)=>V.int n))) (λb o e _ _ q=>au q▸e);rw[ai hi,ai hi]at kk;refine⟨CL,dx,_,_,h1,T.bb,C,J,?_⟩;refine⟨.inl ⟨J,_,ao.of g⟩,t,n,J,l,k,ql,_,_,J,J,g,by rw[aK,bn];lia,?_⟩;rw[show((qs.map λ(n:Nat)=>V.int n)++[V.int (bC n)])=(qs++[bC n]).map λ(n:Nat)=>V.int n by simp];exact kk ⟨⟨fv,au s▸h1,h2.aT st⟩,au il▸f,aq,au qm.symm▸j,il,qk,qm⟩
noncomputable def Fg(ps qs:List Nat)(fo:Option Â)(c:UInt8):Option Text:=if c=65 then fo.map ã else if c=105 then ps[0]?.map é else if c=106 then ps[1]?.map é else if c=112 then qs[0]?.map é else if c=113 then qs[1]?.map é else U
inductive abM(CL:À)(vs:List V)(H:Hp)(Q:VK)(_:XK):Prop|m(ln dx pl ql sl kd fv ps qs fo c u:_)(_:vs=[.ref ln,.str<|S [c]])(_:H ln=O (.aO CL dx<|lf kd pl ql fv sl))(_:FV H fv fo)(_:H pl=O (.ae<|ps.map λ(n:Nat)=>V.int n))(_:H ql=O (.ae<|qs.map λ(n:Nat)=>V.int n))(_:(∀n∈ps,n<=1000000000))(_:(∀n∈qs,n<=1000000000))(_:(∀A,fo=O A->Å A<=50000))(_:Fg ps qs fo c=O u)(_:∀H',aa H H'->Q (.str<|S u) H')
def AT(h:n<=1000000000):(n:Int).natAbs.log2<1920:=by
 rw[Int.natAbs_natCast];by_cases z:n=0
 .subst z;decide
 .have:n.log2<30:=(Nat.log2_lt z).mpr Z;lia
def AU(h:l[k]?=O n):gX (l.map λ(n:Nat)=>V.int n) ((k:Nat):Int)=O (V.int n):=cb (by rw[aR,h];rfl)
def abN:cX P w K mg base 3 CL "field" ["self","letter"] (abM CL):=dB ["self","letter"] T.Yj λH vs Q nd q h=>by
 obtain⟨ln,dx,pl,ql,sl,kd,fv,ps,qs,fo,c,u,rfl,h1,h2,f,g,b1,b2,r,b,k⟩:=h;have s:=T.nL "formula" gn;have i:=T.nL "premises" gn;have j:=T.nL "places" gn;refine⟨_,az (yw (yq e_ (pv 1) cz)<|yr<|yc (L6 T) q<|y1<|yf<|pv 0)<|az (yw (yq wM (pv 1) cz)<|yr<|rl Ij J T.LU boot_str<|y1<|yl (yf<|pv 0)<|uq afs aft Ke cz<|pv 1)<|yr<|rl Ij J T.LU boot_str<|y1<|yl (yf<|pv 0)<|uq afs aft Ke cz<|pv 1,?_⟩;refine⟨J,?_⟩;show if decide (V.str (S [c])=V.str (S [65]))=true then _ else _;rw[fR];unfold Fg at b;by_cases e:c=65
 .rw[aj<|bP (by rw[e])];rw[aj e]at b;cases fo with
  |none=>cases b
  |some A=>cases b;obtain⟨a,rfl,b8⟩:=h2;exact⟨CL,dx,_,_,h1,T.bb,s,J,A,a,J,b8,r A J,k⟩
 .rw[ai (by rw[bO λz=>e (by simpa using z)];decide)];rw[ai e]at b;by_cases l:c=105
  .subst l;rw[aj J]at b;refine⟨105,_,J,J,?_⟩;cases d:ps[0]? with
   |none=>rw[d]at b;cases b
   |some n=>
    rw[d]at b;cases b;refine⟨CL,dx,_,_,h1,T.bb,i,J,⟨_,J⟩,S [105,106],S [105],0,[],J,J,OH,?_⟩;refine⟨_,_,ao.of f,AU d,_,J,AT<|b1 n<|bM d,?_⟩;rw[AR];exact k H<|aa.refl H
  rw[ai l]at b;by_cases m:c=106
  .subst m;rw[aj J]at b;refine⟨106,_,J,J,?_⟩;cases d:ps[1]? with
   |none=>rw[d]at b;cases b
   |some n=>
    rw[d]at b;cases b;refine⟨CL,dx,_,_,h1,T.bb,i,J,⟨_,J⟩,S [105,106],S [106],1,[],J,J,OH,?_⟩;refine⟨_,_,ao.of f,AU d,_,J,AT<|b1 n<|bM d,?_⟩;rw[AR];exact k H<|aa.refl H
  rw[ai m]at b;by_cases o:c=112
  .subst o;rw[aj J]at b;refine⟨112,_,J,J,?_⟩;cases d:qs[0]? with
   |none=>rw[d]at b;cases b
   |some n=>
    rw[d]at b;cases b;refine⟨CL,dx,_,_,h1,T.bb,j,J,⟨_,J⟩,S [112,113],S [112],0,[],J,J,OH,?_⟩;refine⟨_,_,ao.of g,AU d,_,J,AT<|b2 n<|bM d,?_⟩;rw[AR];exact k H<|aa.refl H
  rw[ai o]at b;by_cases p:c=113
  .subst p;rw[aj J]at b;refine⟨113,_,J,J,?_⟩;cases d:qs[1]? with
   |none=>rw[d]at b;exact eG b
   |some n=>
    rw[d]at b;cases b;refine⟨CL,dx,_,_,h1,T.bb,j,J,⟨_,J⟩,S [112,113],S [113],1,[],J,J,OH,?_⟩;refine⟨_,_,ao.of g,AU d,_,J,AT<|b2 n<|bM d,?_⟩;rw[AR];exact k H<|aa.refl H
  rw[ai p]at b;exact eG b
def nv(l:List Nat):List V:=l.map λ(n:Nat)=>V.int n
inductive gT(CL:À)(H:Hp)(ll ln:À)(l:ê):Prop|m(dx pl ql sl fv:_)(_:H ln=O (.aO CL dx<|lf (S<|bp l.rule) pl ql fv sl))(_:H pl=O (.ae<|nv<|Ë l.rule))(_:H ql=O (.ae<|nv<|bR l.rule))(_:FV H fv (ad0 l.rule))(_:SeqAt H sl l.sequent)(_:pl≠ll/\ql≠ll/\sl≠ll)
def SeqAt.kb(h:SeqAt H sl Sq)(k:Kb ll H H')(b:H ll=O (.ae xs))(n:sl≠ll):SeqAt H' sl Sq:=by obtain⟨ys,e,r,q⟩:=h;refine⟨ys,k _ _ e n,λx a=>⟨k _ _ (r x a).1<|aY (r x a).1 b nofun,(r x a).2⟩,q⟩
def FV.kb(k:Kb ll H H')(b:H ll=O (.ae xs)):∀{o:Option Â},FV H v o->FV H' v o
|none,h=>h
|some _,⟨a,e,h⟩=>⟨a,e,k _ _ h.1<|aY h.1 b nofun,h.2⟩
def gT.kb{l:ê}(h:gT CL H ll ln l)(k:Kb ll H H')(a:H ll=O (.ae xs)):gT CL H' ll ln l:=by obtain⟨dx,pl,ql,sl,fv,h1,h2,e,f,g,b,c,d⟩:=h;exact⟨dx,pl,ql,sl,fv,k _ _ h1<|aY h1 a nofun,k _ _ h2 b,k _ _ e c,f.kb k a,g.kb k a d,b,c,d⟩
def gT.same{l:ê}(h:gT CL H ll ln l)(s:aa H H'):gT CL H' ll ln l:=by obtain⟨dx,pl,ql,sl,fv,h1,h2,a,b,c,n⟩:=h;exact⟨dx,pl,ql,sl,fv,s _ _ h1,s _ _ h2,s _ _ a,b.aT<|aa.aT s,c.same s,n⟩
structure bA(CL:À)(H:Hp)(ll:À)(as:List À)(Pf:Ê):Prop where
 ae:H ll=O (.ae (as.map V.ref))
 len:as.length=Pf.length
 at_:∀(i:Nat)(l:ê),Pf[i]?=O l->∃a,as[i]?=O a/\gT CL H ll a l
def bA.same(h:bA CL H ll as Pf)(s:aa H H'):bA CL H' ll as Pf:=⟨s _ _ h.ae,h.len,λi l e=>let⟨a,b,q⟩:=h.at_ i l e;⟨a,b,q.same s⟩⟩
def bA.qO(h:bA CL H ll as Pf)(e:as[i]?=O a):∃l,Pf[i]?=O l/\gT CL H ll a l:=by
 let hi:i<Pf.length:=h.len▸(b9.mp e).1;obtain⟨c,b,q⟩:=h.at_ i Pf[i] (by simp[hi]);rw[b]at e;cases e;exact⟨_,by simp[hi],q⟩
inductive abO(vs:List V)(H:Hp)(Q:VK)(_:XK):Prop|m(sl Sq:_)(_:vs=[.ref sl])(_:SeqAt H sl Sq)(_:Sq.length<=1000)(_:(∀A∈Sq,Å A<=100000))(_:∀H',aa H H'->Q (.bl<|decide (Sq.length<=20)&&Sq.all Ø) H')
def abP:Ok P w K mg base 3 "is_sequent" ["formulas"] abO:=bh ["formulas","formula"] T.Yn λH vs Q nd d h=>by
 obtain⟨sl,Sq,rfl,⟨xs,e,r,rfl⟩,f,g,k⟩:=h;rw[aK]at f;refine⟨_,yr<|qW (yp ud (ye T.cS<|pv 0)<|bj T.LV)<|pC<|eF (zj J) J T.Aq Àa<|y1<|yv 1 nd (dm<|pv 0) λ_ _ _ _ _=>(yc (EV T) d<|y1<|pv 1),?_⟩;refine⟨sl,_,J,.inl<|ao.of e,?_⟩;rw[aK]at k⊢;refine dq (λh1=>?_) λh1=>?_
 .have h1:xs.length<=20:=by lia
  refine⟨sl,J,⟨_,ao.of e⟩,λD j=>lq (vals:=(xs.map λx=>Ø x.2).map V.bl) (by show 1<2;decide) (ao.of e) Gc (by rw[aK];lia) j (λi x v b c H' m s' q=>?_) λH' s' l=>?_⟩
  .rw[aR]at b;rw[aR,aR]at c;cases ex:xs[i]? with
   |none=>rw[ex]at b;exact eG b
   |some y=>
    rw[ex]at b c;cases b;cases c;have ry:=r y<|bM ex;exact⟨y.1,y.2,J,(ry.same s').iK,ry.2,by have:=g y.2<|bZ.mpr ⟨y,bM ex,J⟩;lia,q⟩
  .refine⟨D,xs.map λx=>Ø x.2,J,ao.of l,?_⟩;have kk:=k H' s';rw[bP h1,je,oJ]at kk;exact oJ▸kk
 .have h1:¬xs.length<=20:=λz=>h1 (bP Z);have kk:=k H<|aa.refl H;rw[bO h1,kO]at kk;exact kk
inductive abQ(K:Ñ)(CL:À)(vs:List V)(H:Hp)(Q:VK)(_:XK):Prop|m(ln ss ps fo Ss:_)(_:vs=[.ref ln,.ref ss])(_:iN K CL H ln ss ps fo Ss)(_:ps.length<=2)(_:(ps≠[]->Ss≠[]))(_:Q (.bl<|bI Ss ps) H)
def abR:Ok P w K mg base 1 "places_stand" ["line","sequents"] (abQ K CL):=bh ["line","sequents","in_one_premise"] T.Yo λH vs Q nd I h=>by
 refine gg λP0 p0=>?_;obtain⟨ln,ss,ps,fo,Ss,rfl,x,A,cu,k⟩:=h;obtain⟨⟨dx,kd,pl,ql,sl,fv,h1,h2,a0⟩,⟨g,l,B,s⟩,L,M⟩:=x;refine p0 ?_;refine⟨_,az (yw (PW.pt<|tZ (zb (yf<|pv 0) λ_=>J)<|tY<|yq wm (yl (yf<|pv 0) aG)<|ye T.cS<|yl (pv 1) aG)<|yr fK)<|az (yw (PW.pt<|tZ (yq e_ (ye T.cS<|yf<|pv 0) aG)<|tY<|yq wm (yl (yf<|pv 0) aG)<|ye T.cS<|yl (pv 1)<|pJ pK aG)<|yr fK)<|az (ys 2 nd<|qW (yp e_ (ye T.cS<|yf<|pv 0) aG)<|pC<|yp e_ (ye T.cS<|pv 1) aG)<|yr<|Q7<|qW (pv 2)<|pC<|yp e_ (yl (yf<|pv 0) aG)<|yl (yf (pv 0)) aG,?_⟩;have b:=T.nL "places" gn;have first:∀S0,Ss[0]?=O S0->c2 λa ys=>g[0]?=O a/\H a=O (.ae ys)/\ys.length=S0.length:=λS0 e=>by obtain⟨a,d,xs,f,i,rfl⟩:=s 0 S0 e;exact⟨a,_,d,f,Gc⟩
 have last:∀S0,Ss.getLast? =O S0->c2 λa ys=>gX (g.map V.ref) (-1)=O (V.ref a)/\H a=O (.ae ys)/\ys.length=S0.length:=λS0 e=>by
  rw[OY]at e;obtain⟨a,d,xs,f,i,rfl⟩:=s _ _ e;refine⟨a,_,?_,f,Gc⟩;have cu:0<Ss.length:=by
   cases Ss with
   |nil=>simp at e
   |cons _ _=>simp
  unfold gX kY;rw[ai gn,aj (by rw[aK];lia)];show(g.map V.ref)[(-1+(((g.map V.ref).length):Int)).toNat]?=_;rw[aK,show(-1+(g.length:Int)).toNat=Ss.length-1 by lia,aR,d];rfl
 refine⟨CL,dx,_,_,h1,T.bb,b,J,_,.inl ⟨_,ao.of h2,J⟩,?_⟩;match ps,A,cu,k,h2 with
 |[],_,_,k,h2=>refine⟨CL,dx,_,_,h1,T.bb,b,J,ql,_,J,.inl<|ao.of h2,J,?_⟩;refine⟨CL,dx,_,_,h1,T.bb,b,J,ql,_,J,.inl<|ao.of h2,J,?_⟩;refine(k)
 |[p],_,cu,k,h2=>
  cases Ss with
  |nil=>exact absurd J<|cu Gc
  |cons S0 t=>
   have⟨a,ys,d,f,i⟩:=first S0 J
   refine⟨CL,dx,_,_,h1,T.bb,b,J,_,_,ao.of h2,J,_,_,l,cb (by rw[aR,d];rfl),a,_,J,.inl<|ao.of f,?_⟩;rw[i];have n:bI (S0::t) [p]=decide (p<S0.length):=by simp[bI]
   rw[n]at k;refine dq (λh=>?_) λh=>?_
   .let h:=dR h;rw[bO Z]at k;exact k
   .let o:p<S0.length:=by
     by_cases z:p<S0.length
     .exact z
     .exact absurd (bP Z) h
    rw[bP o]at k;refine⟨CL,dx,_,_,h1,T.bb,b,J,ql,_,J,.inl<|ao.of h2,J,?_⟩;refine⟨CL,dx,_,_,h1,T.bb,b,J,ql,_,J,.inl<|ao.of h2,J,?_⟩;refine(k)
 |[p,q],_,cu,k,h2=>
  have N:(nv [p,q])[0]?=O (V.int p):=J;cases m:Ss with
  |nil=>exact absurd m<|cu Gc
  |cons S0 t=>
   have⟨a,ys,d,f,i⟩:=first S0 (by rw[m];rfl)
   obtain⟨c,u⟩:∃c,Ss.getLast? =O c:=by
    cases e:Ss.getLast? with
    |some c=>exact⟨c,J⟩
    |none=>rw[afu,m]at e;cases e
   have⟨C,zs,D,E,F⟩:=last c u;have n:bI Ss [p,q]=(decide (p<S0.length)&&decide (q<c.length)&&!(Ss.length==1&&p==q)):=by
    unfold bI;let:Ss.getLastD []=c:=by rw[List.getLastD_eq_getLast?,u];rfl
    rw[this];let:Ss.getD 0 []=S0:=by rw[m];rfl
    rw[this]
   rw[n]at k;refine⟨CL,dx,_,_,h1,T.bb,b,J,_,_,ao.of h2,J,_,_,l,cb (by rw[aR,d];rfl),a,_,J,.inl<|ao.of f,?_⟩;rw[i];refine dq (λh=>?_) λh=>?_
   .let h:=dR h;rw[show decide (p<S0.length)=false from bO Z,kO,kO]at k;exact k
   have o:p<S0.length:=by
    by_cases z:p<S0.length
    .exact z
    .exact absurd (bP Z) h
   rw[bP o,je]at k;refine⟨CL,dx,_,_,h1,T.bb,b,J,ql,_,J,.inl<|ao.of h2,J,?_⟩;refine⟨CL,dx,_,_,h1,T.bb,b,J,_,_,ao.of h2,J,_,J,_,_,l,D,C,_,J,.inl<|ao.of E,?_⟩;rw[F];refine dq (λh=>?_) λh=>?_
   .let h:=dR h;rw[show decide (q<c.length)=false from bO Z,kO]at k;exact k
   have r:q<c.length:=by
    by_cases z:q<c.length
    .exact z
    .exact absurd (bP Z) h
   rw[bP r,je]at k;refine⟨CL,dx,_,_,h1,T.bb,b,J,ql,_,J,.inl<|ao.of h2,J,?_⟩;refine⟨ss,_,J,.inl l,J,?_⟩;rw[aK,B];have G:decide (V.int Ss.length=V.int 1)=(Ss.length==1):=by
    by_cases z:Ss.length=1
    .rw[z];rfl
    .rw[show(Ss.length==1)=false from gk.mpr z];refine bO λy=>z ?_;injection y with y
     lia
   rw[G];cases v:(Ss.length==1)with
   |false=>rw[v]at k;exact k
   |true=>
    rw[v,je]at k;refine⟨CL,dx,_,_,h1,T.bb,b,J,_,_,ao.of h2,J,CL,dx,_,_,h1,T.bb,b,J,_,_,ao.of h2,J,J,?_⟩;have e2:decide (V.int p=V.int q)=(p==q):=by
     by_cases z:p=q
     .rw[z];simp
     .rw[show(p==q)=false from gk.mpr z];refine bO λy=>z ?_;injection y with y
      lia
    show Q (.bl<|!decide (V.int p=V.int q)) H;exact e2▸k
def oz(sq:Nat->È)(r:Ù):Nat:=if bI ((Ë r).map sq) (bR r)=true then(if aeF sq r=true then 0 else 5)else 4
inductive abS(K:Ñ)(CL:À)(vs:List V)(H:Hp)(Q:VK)(_:XK):Prop|m(ln ss r sq:_)(_:vs=[.ref ln,.ref ss])(_:iN K CL H ln ss (bR r) (ad0 r) ((Ë r).map sq))(_:(c0 λdx pl ql sl fv=>H ln=O (.aO CL dx<|lf (S<|bp r) pl ql fv sl)))(_:∀H',aa H H'->Q (.int (oz sq r)) H')
def abT:Ok P w K mg base 7 "rule_fault" ["line","sequents"] (abS K CL):=bh ["line","sequents"] T.Yp λH vs Q nd b h=>by
 obtain⟨ln,ss,r,sq,rfl,c,hk,k⟩:=h;refine⟨_,az (yw (gy<|d_<|yc (abR T) b<|y2 (pv 0)<|pv 1)<|yr<|bj T.Yl)<|az (yw (gy<|d_<|yc (abv T) b<|y2 (pv 0)<|pv 1)<|yr<|bj T.Ym)<|yr<|bj T.oo,?_⟩;unfold oz at k;refine⟨ln,ss,_,_,_,J,c,?_,?_,?_⟩
 .cases r<;>simp[bR]
 .cases r<;>simp[bR,Ë]
 cases a:bI ((Ë r).map sq) (bR r)with
 |false=>rw[a,ai gn]at k;exact k H<|aa.refl H
 |true=>
  rw[a,aj J]at k;refine⟨ln,ss,r,sq,J,⟨c,hk,a⟩,λH1 d=>?_⟩;cases hf:aeF sq r with
  |false=>rw[hf,ai gn]at k;exact k H1 d
  |true=>rw[hf,aj J]at k;exact k H1 d
def lN(Pf:Ê):List Nat:=Pf.flatMap λl=>Ë l.rule
def MV(Pf:Ê)(n:Nat):Ħ Pf n=decide (n∈lN Pf):=by
 apply sf.mpr;unfold Ħ lN;rw[l7,du,List.mem_flatMap];refine⟨λ⟨l,h1,h2⟩=>⟨l,h1,?_⟩,λ⟨l,h1,h2⟩=>⟨l,h1,?_⟩⟩
 .obtain⟨j,a,b⟩:=l7.mp h2;exact eq_of_beq b▸a
 .exact l7.mpr ⟨n,h2,sk n⟩
def lO(r:Ù):(Ë r).length<=2:=by cases r<;>simp[Ë]
theorem MW:∀Pf:Ê,(lN Pf).length<=2*Pf.length
|[]=>aN _
|l::r=>by have:=MW r;have:=lO l.rule;unfold lN at*;rw[l8,bw,aJ];lia
def Tb(ag:List (aL×V))(L:List Nat):Prop:=ag.length<=L.length/\∀n:Nat,(bT ag<|.inl n).isSome=decide (n∈L)
def Tb.nil:Tb [] []:=⟨aN _,λn=>by rw[uk];simp⟩
def Tb.g_{L:List Nat}(h:Tb ag L):Tb (de ag (.inl (m:Int)) v) (L++[m]):=by
 refine⟨?_,λn=>?_⟩
 .have:=pS ag (.inl m) v;have:=h.1;rw[bw,dP];lia
 .rw[wH];by_cases e:n=m
  .subst e;simp
  .rw[ai λz=>e (by injection z with z;lia),h.2 n];exact iC.mpr (by simp[e])
def abU{l}(h:Pf[i]?=O l):lN (Pf.take (i+1))=lN (Pf.take i)++Ë l.rule:=by rw[gC h];unfold lN;rw[vn];simp
def jw(h:(nv l)[i]?=O v):∃n,l[i]?=O n/\v=V.int n:=by
 unfold nv at h;rw[aR]at h;cases e:l[i]? with
 |none=>rw[e]at h;exact eG h
 |some n=>rw[e]at h;exact⟨n,J,(cZ h).symm⟩
def Fh(h:l[i]?=O n):(nv l)[i]?=O (V.int n):=by unfold nv;rw[aR,h];rfl
def dA(l:List Nat):(nv l).length=l.length:=aK _
def abV(Pf:Ê)(i:Nat):(lN (Pf.take i)).length<=2*Pf.length:=by let:=MW<|Pf.take i;rw[eh]at this;lia
inductive abW(CL:À)(vs:List V)(H:Hp)(Q:VK)(_:XK):Prop|m(ll as Pf:_)(_:vs=[.ref ll])(_:bA CL H ll as Pf)(_:Pf.length<=1000)(_:∀H' D ag,aa H H'->H D=U->H' D=O (.dK ag)->Tb ag (lN Pf)->Q (.ref D) H')
def MX(T:Tx P w K mg CR CL CP CF CT):Ok P w K mg base 1 "used_lines" ["lines"] (abW CL):=bh ["lines","used","line","premise"] T.Yq λH vs Q nd x h=>by
 obtain⟨ll,as,Pf,rfl,m,F,k⟩:=h;refine⟨_,az (ys 1 nd zx) (az (yo (dm (pv 0)) (yx 2 nd) (bS (yo (dm (yf (pv 2))) (yx 3 nd) (bS (wI (jp x) (pv 1) (pv 3) fK J))))) (yr (pv 1))),?_⟩;have z:=T.nL "premises" gn;intro D r;have v:aa H (ab H D (.dK [])):=aa.ab r;refine⟨ll,J,⟨_,ao.of (v _ _ m.ae)⟩,kh (xs:=as.map V.ref) (λi c H'=>c3 λag o b=>c=[O (.ref ll),O (.ref D),o,b]/\aa H H'/\H' D=O (.dK ag)/\Tb ag (lN (Pf.take i)))
  ⟨[],U,U,J,v,aq,Tb.nil⟩ ?_ ?_ ?_⟩
 .rintro i c H' _ ⟨ag,o,b,rfl,e,_⟩;exact ao.of (e _ _ m.ae)
 .rintro i y c H' d ⟨ag,o,b,rfl,e,p,tb⟩;rw[aR]at d;cases s:as[i]? with
  |none=>rw[s]at d;exact eG d
  |some a=>
   rw[s]at d;cases d;refine gg λP0 p0=>?_;obtain⟨l,A,B⟩:=m.qO s;obtain⟨dx,pl,ql,sl,fv,h1,h2,G,I,a0,m1,m2,m3⟩:=B.same e;refine p0 ?_;have C:D≠pl:=aY p h2 nofun;refine⟨CL,dx,_,_,h1,T.bb,z,J,pl,J,⟨_,ao.of h2⟩,kh (xs:=nv (Ë l.rule)) (λj c f=>c2 λag b=>c=[O (.ref ll),O (.ref D),O (.ref a),b]/\aa H f/\f pl=O (.ae (nv (Ë l.rule)))/\f D=O (.dK ag)/\Tb ag (lN (Pf.take i)++(Ë l.rule).take j))
    ⟨ag,b,J,e,h2,p,by rw[F8,jW];exact tb⟩ ?_ ?_ ?_⟩
   .rintro j c f _ ⟨ag,b,rfl,_,q,_⟩;exact ao.of q
   .rintro j y c f d ⟨ag,b,rfl,t,q,u,g⟩;obtain⟨n,E,rfl⟩:=jw d;refine⟨D,_,J,lp.k (k:=ü (n:Int)) u ?_,?_⟩
    .have:=g.1;have:=abV Pf i;have:=lO l.rule;simp only[bw,eh]at*;rw[bn];lia
    refine⟨_,_,J,Kb.same r t Kb.ab,au (cB C)▸q,aq,?_⟩;rw[gC E,<-jc];exact g.g_
   .rintro c f ⟨ag,b,rfl,t,q,u,g⟩;rw[dA,l_,<-abU A]at g;exact⟨ag,_,_,J,t,u,g⟩
 .rintro c H' ⟨ag,o,b,rfl,e,p,tb⟩;rw[aK,m.len,l_]at tb;exact(k H' D ag e r p tb)
def oB(Pf:Ê)(ps:List Nat):Nat:=if(ps.any λp=>decide (Pf.length<=p))=true then 2 else if(ps.any λp=>Ħ Pf p)=true then 3 else if ϊ ps=true then 0 else 3
inductive abX(CL:À)(vs:List V)(H:Hp)(Q:VK)(_:XK):Prop|m(ln dx pl ql sl fv kd ps ll as Pf:_)(_:vs=[.ref ln,.ref ll])(_:H ln=O (.aO CL dx<|lf kd pl ql fv sl))(_:H pl=O (.ae<|nv ps))(_:ps.length<=2)(_:bA CL H ll as Pf)(_:Pf.length<=1000)(_:∀H',aa H H'->Q (.int (oB Pf ps)) H')
def abY:Ok P w K mg base 2 "premise_fault" ["line","lines"] (abX CL):=bh ["line","lines","premise","used"] T.Yr λH vs Q nd s h=>by
 obtain⟨ln,dx,pl,ql,sl,fv,kd,ps,ll,as,Pf,rfl,h1,h2,A,j,B,k⟩:=h;refine⟨_,az (yw (d_<|eF (wA J) J T.xg ϝ<|y1<|yv 2 nd (dm<|yf<|pv 0) λ_ _ _ _ _=>(yp wm (pv 2) (eF (US J) J T.cS mT<|y1<|pv 1)))<|yr<|bj T.Yk)<|az (ys 3 nd<|yc (MX T) s<|y1<|pv 1)<|az (yw (d_<|eF (wA J) J T.xg ϝ<|y1<|yv 2 nd (dm<|yf<|pv 0) λ_ _ _ _ _=>(QY<|Jm (jp s) (pv 2)<|pv 3))<|yr<|bj T.LW)<|az (yw (PW.pt<|tZ (yq e_ (ye T.cS<|yf<|pv 0) aG)<|tY<|yq e_ (yl (yf<|pv 0) aG)<|yl (yf<|pv 0) aG)<|yr<|bj T.LW)<|yr<|bj T.oo,?_⟩;have d:=T.nL "premises" gn;have t:(nv ps).length<=1000000:=by rw[dA];lia
 unfold oB at k;refine⟨CL,dx,_,_,h1,T.bb,d,J,pl,J,⟨_,ao.of h2⟩,λD C=>lq (vals:=(ps.map λp=>decide (Pf.length<=p)).map V.bl) (by show 2<4;decide) (ao.of h2) (by simp[nv]) t C (λi x v l e H' u s' q=>?_) λH1 m E=>?_⟩
 .obtain⟨n,o,rfl⟩:=jw l;rw[aR,aR,o]at e;cases e;refine⟨ll,_,J,.inl<|ao.of<|s' _ _ j.ae,?_⟩;show u (.bl<|decide<|((as.map V.ref).length:Nat)<=(n:Int)) H';rw[aK,j.len,show decide (((Pf.length:Nat))<=(n:Int))=decide (Pf.length<=n)from iC.mpr Z];exact q H'<|aa.refl H'
 refine⟨D,ps.map λp=>decide (Pf.length<=p),J,ao.of E,?_⟩;rw[Bi];show if(ps.any λp=>decide (Pf.length<=p))=true then _ else _;refine dq (λc=>?_) λc=>?_
 .rw[aj c]at k;exact k H1 m
 rw[ai c]at k;refine⟨ll,as,Pf,J,j.same m,B,λH2 a0 ag F N G tb=>?_⟩;have g:=m.trans F;refine⟨CL,dx,_,_,g _ _ h1,T.bb,d,J,pl,J,⟨_,ao.of<|g _ _ h2⟩,λI a1=>lq (vals:=(ps.map λp=>Ħ Pf p).map V.bl) (by show 2<4;decide) (ao.of<|g _ _ h2) (by simp[nv]) t a1 (λi x v l e H' u s' q=>?_) λf L r=>?_⟩
 .obtain⟨n,o,rfl⟩:=jw l;rw[aR,aR,o]at e;cases e;refine⟨a0,_,J,fE.k (k:=ü (n:Int))<|s' _ _ G,?_⟩;rw[tb.2 n,<-MV];exact q H'<|aa.refl H'
 refine⟨I,ps.map λp=>Ħ Pf p,J,ao.of r,?_⟩;rw[Bi];show if(ps.any λp=>Ħ Pf p)=true then _ else _;have b:=g.trans L;refine dq (λc=>?_) λc=>?_
 .rw[aj c]at k;exact k f b
 rw[ai c]at k;refine⟨CL,dx,_,_,b _ _ h1,T.bb,d,J,pl,_,J,.inl<|ao.of<|b _ _ h2,J,?_⟩;rw[dA];match ps,A,h2,k with
 |[],_,h2,k|[p],_,h2,k=>exact k f b
 |[p,q],_,h2,k=>
  refine⟨CL,dx,_,_,b _ _ h1,T.bb,d,J,_,_,ao.of<|b _ _ h2,J,CL,dx,_,_,b _ _ h1,T.bb,d,J,_,_,ao.of<|b _ _ h2,J,J,?_⟩;have e2:decide (V.int p=V.int q)=decide (p=q):=iC.mpr ⟨λy=>by injection y with y;lia,λy=>by rw[y]⟩;refine am e2 ?_;have M:ϊ [p,q]=(p !=q):=J;rw[M]at k;refine dq (λΒ=>?_) λΒ=>?_
  .have Β:=dR Β;subst Β;rw[ai Gc]at k;exact k f b
  .have Β:¬p=q:=λz=>Β (bP z);rw[aj (by simp[Β])]at k;exact k f b
noncomputable def cU:Ù->Ä
|.ax _=>[65]
|.cut _ _ _ _|.tensor _ _ _ _|.wth _ _ _ _=>[105,112,106,113]
|.par _ _ _|.con _ _ _|.ex _ _ _=>[105,112,113]
|.plus1 _ _ _|.plus2 _ _ _=>[105,112,65]
|.der _ _|.prom _ _=>[105,112]
|.weak _ _=>[105,65]
noncomputable def jU:Ù->List Ä
|.ax A=>[ã A]
|.cut i p j q|.tensor i p j q|.wth i p j q=>[é i,é p,é j,é q]
|.par i p q|.con i p q|.ex i p q=>[é i,é p,é q]
|.plus1 i p B|.plus2 i p B=>[é i,é p,ã B]
|.der i p|.prom i p=>[é i,é p]
|.weak i A=>[é i,ã A]
def AV(r:Ù):(jU r).length=(cU r).length:=by cases r<;>rfl
def abZ(r:Ù):bT xc (.inr (S (bp r)))=O (.str (S (cU r))):=by cases r<;>rfl
def ab0(r:Ù):∀(k:Nat)(c:UInt8)(u:Ä),(cU r)[k]?=O c->(jU r)[k]?=O u->Fg (Ë r) (bR r) (ad0 r) c=O u:=λk c u h1 h2=>by
 have e:((cU r).map (Fg (Ë r) (bR r) (ad0 r)))[k]?=((jU r).map O)[k]?:=by cases r<;>rfl
 rw[aR,aR,h1,h2]at e;exact cZ e
def MY(r:Ù):Ł r=Ŷ (bp r::jU r):=by cases r<;>rfl
theorem MZ:∀(f n k:Nat),n<10^k->1<=k->(Ϝ f n).length<=k
|0=>λ_ _ _ _=>cM _
|f+1=>λn k h hk=>by
 unfold Ϝ;split
 .simpa using hk
 .match k,hk with
  |1,_=>lia
  |k+2,_=>
   have:n / 10<10^(k+1):=by rw[OZ]at h;exact Nat.div_lt_of_lt_mul Z
   have:=MZ f (n / 10) (k+1) this Z;simp only[bw,dP];lia
def ab1(h:n<=1000000000):(é n).length<=10:=MZ _ _ 10 Z gn
structure uX(r:Ù):Prop where
 ps:∀n∈Ë r,n<=1000000000
 qs:∀n∈bR r,n<=1000000000
 fo:∀A,ad0 r=O A->Å A<=200/\aE A=true
def M0(h:uX r):∀u∈jU r,u.length<=3200:=by
 have d:∀n,(n∈Ë r\/n∈bR r)->(é n).length<=3200:=λn b=>by have:=ab1<|b.elim (h.ps n)<|h.qs n;lia
 have g:∀A,ad0 r=O A->(ã A).length<=3200:=λA c=>by have h1:=h.fo A c;have:=xj h1.2;lia
 cases r<;>simp only[jU,Ë,bR,ad0,a_,fj,fk]at d g⊢<;>intro u a<;>rcases a with rfl|a<;>first|exact g _ J|exact d _ Gc|(rcases a with rfl|a<;>first|exact g _ J|exact d _ Gc|(rcases a with rfl|rfl<;>first|exact g _ J|exact d _ Gc))
def ab2(r:Ù):bp r∈adZ:=by cases r<;>exact List.elem_iff.mp rfl
def M3(r:Ù):(bp r).length<=6:=(by decide:∀u∈adZ,u.length<=6) _<|ab2 r
def AW(r:Ù):(cU r).length<=4:=by cases r<;>exact Nat.le_of_ble_eq_true rfl
def AX(l:List Ä):wV l=(l.map S).map V.str:=by rw[cV];rfl
def Fi(h:∀x∈l,x<=b):l.sum<=l.length*b:=by
 induction l with
 |nil=>simp
 |cons a r c=>
  have h1:=h a Gc;have h2:=c λx d=>h x (by simp[d]);rw[l9,aJ,Nat.succ_mul];lia
inductive ab3(CL:À)(vs:List V)(H:Hp)(Q:VK)(_:XK):Prop|m(ln ll l:_)(_:vs=[.ref ln])(_:gT CL H ll ln l)(_:uX l.rule)(_:∀H',aa H H'->Q (.str<|S<|Ł l.rule) H')
def ab4:cX P w K mg base 4 CL "written" ["self"] (ab3 CL):=by
 obtain⟨n,o,p⟩:=T.LX;refine dB ["self","letter"] T.Ys λH vs Q nd r h=>?_;obtain⟨ln,ll,l,rfl,⟨dx,pl,ql,sl,fv,h1,h2,s,t,L,_⟩,e,k⟩:=h;refine⟨_,yr<|zE cz<|cJ iq (bH<|y1<|yf<|pv 0)<|yv 1 nd (zy<|uu (bj o)<|yf<|pv 0) λ_ _ _ _ _=>(ym (pv 0) T.bb (abN T) r<|y1<|pv 1),?_⟩;have g:=T.nL "kind" gn;refine⟨⟨_,J⟩,CL,dx,_,_,h1,T.bb,g,J,Ge,λM y=>?_⟩;have f:aa H (ab H M<|.ae [.str<|S<|bp l.rule]):=aa.ab y;refine⟨CL,dx,_,_,f _ _ h1,T.bb,g,J,n,xc,.inr<|S<|bp l.rule,_,J,p,J,abZ l.rule,S<|cU l.rule,J,λD z=>Vk (by show 1<2;decide) (by rw[rO,dI,AV]) (by rw[rO];have:=AW l.rule;lia) z (λi c v B C H' N s' q=>?_) λH1 j E=>?_⟩
 .obtain⟨b,F,rfl⟩:=uP B;obtain⟨u,a,rfl⟩:=jP C;have d:=f.trans s';refine⟨dx,_,d _ _ h1,J,ln,dx,pl,ql,sl,_,fv,Ë l.rule,bR l.rule,ad0 l.rule,b,u,J,d _ _ h1,t.aT<|aa.aT d,d _ _ h2,d _ _ s,e.ps,e.qs,λA G=>by have:=(e.fo A G).1;lia,ab0 l.rule i b u F a,q⟩
 .refine⟨M,D,_,_,J,J,j _ _ aq,E,?_,λX I=>?_⟩
  .rw[dI,bn];have:(jU l.rule).length<=4:=by rw[AV];exact AW _
   simp only[dP];lia
  have a0:[V.str<|S<|bp l.rule]++wV (jU l.rule)=((bp l.rule::jU l.rule).map S).map V.str:=by rw[cV];rfl
  rw[a0];refine⟨S [32],X,(bp l.rule::jU l.rule).map S,J,J,.inl<|ao.of aq,?_,?_⟩
  .have b:=Fi (l:=((bp l.rule::jU l.rule).map S).map (·.length)) (by
    intro x m;rw[cV]at m;obtain⟨u,a,rfl⟩:=bZ.mp m;show(S u).length<=3200;rw[bK];rcases a_.mp a with rfl|a
    .have:=M3 l.rule;lia
    .exact M0 e u a)
   have:(jU l.rule).length<=4:=by rw[AV];exact AW _
   rw[bK];simp only[aK,aJ,f9]at b⊢;lia
  .rw[AQ,MP,<-MY];exact k _<|(f.trans j).trans<|aa.ab I
inductive ab5(CL:À)(vs:List V)(H:Hp)(Q:VK)(_:XK):Prop|m(ll as Pf:_)(_:vs=[.ref ll])(_:bA CL H ll as Pf)(_:Pf.length<=1000)(_:(∀l∈Pf,uX l.rule))(_:∀H',aa H H'->Q (.str<|S<|ř Pf) H')
theorem M4:∀(c:List Ä),(∀u∈c,u.length<=3200)->(Ŷ c).length<=3201*c.length
|[]=>λ_=>by simp[Ŷ]
|[a]=>λh=>by let:=h a Gc;simp only[Ŷ,dP];lia
|a::b::r=>λh=>by
 have h1:=h a Gc;have h2:=M4 (b::r) λu d=>h u (by simp[d]);have e:Ŷ (a::b::r)=a++32::Ŷ (b::r):=J;rw[e,bw,aJ];simp only[aJ]at h2⊢;lia
def Fj(h:uX r):(Ł r).length<=16005:=by
 rw[MY];have:=M4 (bp r::jU r) (by
  intro u a;rcases a_.mp a with rfl|a
  .have:=M3 r;lia
  .exact M0 h u a)
 have:=AW r;have:=AV r;simp only[aJ]at*;lia
def M5:Ok P w K mg base 5 "written_lines" ["lines"] (ab5 CL):=bh ["lines","line"] T.Yt λH vs Q nd p h=>by
 obtain⟨ll,as,Pf,rfl,d,C,f,k⟩:=h;refine⟨_,yr<|zE cz<|yv 1 nd (dm<|pv 0) λ_ _ _ _ _=>(cJ lh (yn (pv 1) T.bb (ab4 T) p) cz),?_⟩;have r:=d.len;refine⟨⟨_,J⟩,ll,J,⟨_,ao.of d.ae⟩,λD s=>lq (vals:=wV<|Pf.map λl=>Ł l.rule++[10]) (by show 1<2;decide) (ao.of d.ae) (by rw[dI,aK,aK];exact r) (by rw[aK];lia) s (λi x v c t H' E s' q=>?_) λH1 y g=>?_⟩
 .rw[aR]at c;cases e:as[i]? with
  |none=>rw[e]at c;exact eG c
  |some a=>
   rw[e]at c;cases c;obtain⟨l,j,m⟩:=d.qO e;obtain⟨u,n,rfl⟩:=jP t;rw[aR,j]at n;cases n;have o:=f l<|bM j;obtain⟨dx,pl,ql,sl,fv,h1⟩:=m.same s';refine⟨dx,_,h1,J,a,ll,l,J,m.same s',o,λH2 z=>?_⟩;refine⟨S<|Ł l.rule,S [10],J,J,?_,?_⟩
   .have:=Fj o;rw[bK,bK,bn];simp only[dP];lia
   .rw[iw];exact q H2 z
 .have A:wV (Pf.map λl=>Ł l.rule++[10])=((Pf.map λl=>Ł l.rule++[10]).map S).map V.str:=AX _;rw[A]at g;refine⟨S [],D,(Pf.map λl=>Ł l.rule++[10]).map S,J,J,.inl<|ao.of g,?_,?_⟩
  .have b:=Fi (l:=((Pf.map λl=>Ł l.rule++[10]).map S).map (·.length)) (by
    intro x c;rw[cV,cV]at c;obtain⟨l,B,rfl⟩:=bZ.mp c;show(S<|Ł l.rule++[10]).length<=16006;have:=Fj<|f l B;rw[bK,bw,dP];lia)
   rw[bK];simp only[aK,f9]at b⊢;lia
  .rw[AQ,Fb];have:(Pf.map λl=>Ł l.rule++[10]).flatten=ř Pf:=by unfold ř;rw[List.flatMap_def]
   exact this▸k H1 y
def db(u:Ä):Nat:=adZ.findIdx λx=>x==u
def ab6(h:u∈adZ):db u<12:=by let:db u<adZ.length:=OV ⟨u,h,sk u⟩;exact this
def ab7(h:u∈adZ):adZ[db u]?=O u:=by let h1:db u<adZ.length:=OV ⟨u,h,sk u⟩;rw[bL h1];let:=afm (w:=h1);exact cw O<|eq_of_beq this
def M6(u:Ä):bT xc (.inr (S u))=if u∈adZ then O (.str (S (fW (db u))))else none:=by
 by_cases h:u∈adZ
 .rw[aj h];unfold adZ at h;simp only[a_,fj,fk]at h;rcases h with rfl|rfl|rfl|rfl|rfl|rfl|rfl|rfl|rfl|rfl|rfl|rfl<;>rfl
 .rw[ai h];unfold adZ at h;simp only[a_,fj,fk,Bm]at h;let ne:∀y,¬u=y->¬((.inr (S y):aL)=.inr (S u)):=λy h z=>h (by injection z with z;exact(gF z).symm);unfold xc;obtain⟨h1,h2,a,b,c,d,e,f,g,i,j,k⟩:=h;rw[ci<|ne _ h1,ci<|ne _ h2,ci<|ne _ a,ci<|ne _ b,ci<|ne _ c,ci<|ne _ d,ci<|ne _ e,ci<|ne _ f,ci<|ne _ g,ci<|ne _ i,ci<|ne _ j,ci<|ne _ k,uk]
def ab8{h}(e:cD k h=O r):adZ[k]?=O (bp r):=by rcases k with _|_|_|_|_|_|_|_|_|_|_|_|k<;>rcases h with⟨_|⟨_,_|⟨_,_|⟨_,_|⟨_,_|_⟩⟩⟩⟩,_|_⟩<;>first|cases e;rfl|exact eG e
def ab9(r:Ù):bp (iV r)=bp r:=by cases r<;>rfl
def M7(r:Ù):ad0 (iV r)=ad0 r:=by cases r<;>rfl
theorem M8:∀(n:Nat)(t:Ä),∀u∈df n t,u.length<=t.length
|0=>λt u h=>by
 let:u=t:=by simpa[df]using h
 rw[this];exact aN _
|n+1=>λt u h=>by
 unfold df at h;split at h
 .rcases a_.mp h with rfl|h
  .exact OW<|Gh _
  .let h1:=M8 n _ u h;have h2:(t.dropWhile λb=>b !=32).length<=t.length:=vj<|sy _;rw[ib]at h1;omega
 .let:u=t:=by simpa using h
  rw[this];exact aN _
theorem M9:∀(n:Nat)(t:Ä),fh t=true->∀u∈df n t,fh u=true
|0=>λt a u h=>by
 let:u=t:=by simpa[df]using h
 rw[this];exact a
|n+1=>λt a u h=>by
 let c:∀v:Ä,(∀b∈v,b∈t)->fh v=true:=λv e=>by unfold fh at a⊢;rw[dQ]at a⊢;exact λb d=>a b<|e b d
 unfold df at h;split at h
 .rcases a_.mp h with rfl|h
  .exact c _ λb d=>(Gh _).subset d
  .exact M9 n _ (c _ λb d=>(sy _).subset<|afo d) u h
 .let:u=t:=by simpa using h
  rw[this];exact a
inductive aca(CL:À)(vs:List V)(H:Hp)(Q:VK)(_:XK):Prop|m(t:_)(_:vs=[.str<|S t])(_:t.length<=100000)(_:fh t=true)(_:(ļ t=U->∀H',aa H H'->Q .aQ H'))(_:∀r,ļ t=O r->∀H' ln dx pl ql sl,aa H H'->H ln=U->H pl=U->H ql=U->H sl=U->uW CL H' ln dx pl ql sl (S<|bp r) (Ë<|iV r) (bR<|iV r) (ad0 r)->Q (.ref ln) H')
def acb(T:Tx P w K mg CR CL CP CF CT):Ok P w K mg base 13 "read_line" ["text"] (aca CL):=by
 obtain⟨af,AY,dk⟩:=T.LX;refine bh ["text","kind","letters","texts","line","letter","field_text"] T.Yv λH vs Q nd hr h=>?_;obtain⟨t,rfl,hz,ha,kn,ks⟩:=h;refine⟨_,az (ys 1 nd (yt (T_ (pv 0) cz) aG)) (az (yw (pw (zO (pv 1) (bj AY))) (yr cH)) (az (ys 2 nd (uu (bj AY) (pv 1))) (az (ys 3 nd (oh zh (UW (pv 0) (y2 cz (eF (pN) J T.cS boot_len (y1 (pv 2))))) (km aG) uf)) (az (yw (yq ki (ye T.cS (pv 3)) (eF (pN) J T.cS boot_len (y1 (pv 2)))) (yr cH)) (az (ys 4 nd (vD (AS T) (hr.dE gn) J (bx (pv 1) (bx (bH cW) (bx (bH cW) (bx cH (bx (bH cW) cW))))))) (az (yo (VR J T.Yu (y2 (pv 2) (pv 3))) (CN J (pG (yx 5 nd) (pG (yx 6 nd) y6))) (bS (yw (gy (d_ (ym (pv 4) T.bb (abL T) hr (y2 (pv 5) (pv 6))))) (yr cH)))) (yr (pv 4)))))))),?_⟩;have eM:(S t).length<=sizeLine:=by rw[bK,sizeLine_eq];lia
 rw[<-DX]at kn;have g:=ks;simp only[<-DX]at g;refine⟨⟨_,J⟩,S t,S [32],J,J,J,eM,λtp nt=>?_⟩;rw[abI];have s0:aa H (ab H tp (.be [.str (S (t.takeWhile λb=>b !=32)),.str (Ď (S t) (S [32])).2.1,.str (Ď (S t) (S [32])).2.2])):=aa.ab nt;generalize G1:ab H tp (.be [.str (S (t.takeWhile λb=>b !=32)),.str (Ď (S t) (S [32])).2.1,.str (Ď (S t) (S [32])).2.2])=H0 at s0;have ht:H0 tp=O (.be [.str (S (t.takeWhile λb=>b !=32)),.str (Ď (S t) (S [32])).2.1,.str (Ď (S t) (S [32])).2.2]):=G1▸aq;refine⟨_,_,aV.of ht,J,?_⟩;refine⟨af,_,.inr (S (t.takeWhile λb=>b !=32)),J,dk,J,?_⟩;rw[M6];unfold zX at kn g;simp only[]at kn g;by_cases hw:(t.takeWhile λb=>b !=32)∈adZ
 case neg=>rw[if_neg hw]at kn⊢;exact(kn J H0 s0)
 rw[if_pos hw]at kn g⊢;generalize hu:(t.takeWhile λb=>b !=32)=u at hw kn g;have ek:(adZ.findIdx λx=>x==u)=db u:=J;rw[ek]at kn g;have L:=ab6 hw;have ll:=WR (db u) L;have l4:(fW (db u)).length<=4:=by revert L;generalize db u=n;revert n;decide
 refine⟨af,_,.inr (S u),_,J,dk,J,by rw[M6,if_pos hw],?_⟩;refine⟨J,S (fW (db u)),J,by rw[bK,sizeLine_eq];lia,S t,S [32],(fW (db u)).length,J,by rw[bK];rfl,J,Z,by rw[bK,sizeLine_eq];lia,λsp nsp=>?_⟩;rw[abH];generalize G2:df (fW (db u)).length t=parts;have pne:parts≠[]:=by
  rw[<-G2];cases(fW (db u)).length with
  |zero=>simp[df]
  |succ n=>unfold df;split<;>simp
 have psm:∀v∈parts,v.length<=t.length/\fh v=true:=λv k=>by rw[<-G2]at k;exact⟨M8 _ _ v k,M9 _ _ ha v k⟩
 rw[<-ll,G2]at kn g;have s1:=s0.trans (aa.ab (o:=.ae ((parts.map S).map V.str)) nsp);refine⟨_,J,sp,_,J,ao.of aq,λD nD=>?_⟩;have ec:fL ((parts.map S).map V.str) (O 1) U=wV parts.tail:=by
  have h1:1<=((parts.map S).map V.str).length:=by rw[List.length_map,List.length_map];exact List.length_pos_iff.mpr pne
  have:=EW h1;rw[show((1:Nat):Int)=1 from J]at this;rw[this,<-AX];unfold wV;rw[List.drop_one,List.map_tail]
 rw[ec];have l:=s1.trans (aa.ab (o:=.ae (wV parts.tail)) nD);generalize hH2:ab (ab H0 sp (.ae ((parts.map S).map V.str))) D (.ae (wV parts.tail))=H2 at l;have B:H2 D=O (.ae (wV parts.tail)):=hH2▸aq;have qo:H D=none:=s1.free nD;have PR:∀v∈parts.tail,v.length<=t.length/\fh v=true:=λv k=>psm v (List.mem_of_mem_tail k);generalize parts.tail=fs at B kn g PR;refine⟨D,_,J,.inl (ao.of B),S (fW (db u)),J,by rw[bK,sizeLine_eq];lia,J,?_⟩;rw[dI,bK];have ei:(!decide (V.int fs.length=V.int ((fW (db u)).length)))=!decide (fs.length=(fW (db u)).length):=by congr 1;exact decide_eq_decide.mpr ⟨λz=>by injection z with z;lia,λz=>by rw[z]⟩
 refine am ei ?_;by_cases hlen:fs.length=(fW (db u)).length
 case neg=>rw[if_neg hlen]at kn;exact decide_eq_false hlen▸(kn J H2 l)
 rw[if_pos hlen]at kn;simp only[if_pos hlen]at g;rw[decide_eq_true hlen];have PU:=WS (db u) L fs (hlen.trans ll);refine⟨Nat.zero_le _,λpl cY=>?_⟩;refine⟨Nat.zero_le _,λql C=>?_⟩;refine⟨Nat.zero_le _,λsl m=>?_⟩;intro ln p PV ndl nel;refine⟨ln,p,pl,ql,sl,_,.aQ,J,aq,λE k7 kp5=>⟨J,?_⟩⟩;have F:aa H2 (ab H2 pl (.ae [])):=aa.ab cY;have M:aa (ab H2 pl (.ae [])) (ab (ab H2 pl (.ae [])) ql (.ae [])):=aa.ab C;have N:aa (ab (ab H2 pl (.ae [])) ql (.ae [])) (ab (ab (ab H2 pl (.ae [])) ql (.ae [])) sl (.ae [])):=aa.ab m;have G:aa (ab (ab (ab H2 pl (.ae [])) ql (.ae [])) sl (.ae [])) E:=aa.made PV ndl kp5;have il:pl≠ql:=λz=>by rw[<-z,aq]at C;cases C
 have qk:pl≠sl:=λz=>by rw[<-z,au il,aq]at m;cases m
 have qm:ql≠sl:=λz=>by rw[<-z,aq]at m;cases m
 have acd:E pl=O (.ae []):=G _ _ (N _ _ (M _ _ aq));have ace:E ql=O (.ae []):=G _ _ (N _ _ aq);have acf:E sl=O (.ae []):=G _ _ aq;have yL:H pl=none:=l.free cY;have yM:H ql=none:=(l.trans F).free C;have PX:H sl=none:=((l.trans F).trans M).free m;have f6:=((l.trans F).trans M).trans N;have vR:H ln=none:=f6.free PV;have G3:E D=O (.ae (wV fs)):=G _ _ (N _ _ (M _ _ (F _ _ B)));have G4:D≠ln:=aY G3 k7 nofun;have tM:D≠pl:=bv B cY;have nDq:D≠ql:=bv (F _ _ B) C;have asc:(S (fW (db u))).cps.all (· < 128)=true:=by revert L;generalize db u=n;revert n;decide+kernel
 have B5:∀v A,ß v=O A->aE A=true:=λv A e=>(Ee e).1;refine⟨S (fW (db u)),D,_,J,asc,ao.of G3,VT (ys:=wV fs) (by rw[rO,dI];lia) (λi a0 H'=>c0 λps qs fo R a1=>a0=[O (.str (S t)),O (.str (S u)),O (.str (S (fW (db u)))),O (.ref D),O (.ref ln),R,a1]/\aa H H'/\H' D=O (.ae (wV fs))/\uW CL H' ln p pl ql sl (S u) ps qs fo/\rd ((fW (db u)).drop i) (fs.drop i) (ps,qs,fo)=rd (fW (db u)) fs ([],[],U)/\ps.length<=i/\qs.length<=i)
  ⟨[],[],U,U,U,by rw[<-hu];rfl,f6.trans G,G3,⟨⟨.aQ,k7,J⟩,acd,ace,acf,il,qk,qm⟩,J,Nat.le_refl _,Nat.le_refl _⟩ ?_ ?_ ?_⟩
 .rintro i a0 H' _ ⟨ps,qs,fo,R,a1,rfl,_,q,_⟩;exact ao.of q
 .rintro i c y aav a0 H' hc hy hT ⟨ps,qs,fo,R,a1,rfl,X,PY,Y,d,b1,b2⟩;refine gg λP0 p0=>?_;obtain⟨b,hb,rfl⟩:=uP hc;obtain⟨v,k,rfl⟩:=jP hy;have hi:i<(fW (db u)).length:=(List.getElem?_eq_some_iff.mp hb).1;have j:aa H' (ab H' aav (.be [.str ⟨#[b.toNat]⟩,.str (S v)])):=aa.ab hT;obtain⟨⟨fv,g1,g2⟩,g3,g4,g5,g6,g7,g8⟩:=Y;refine p0 ?_;have acg:uW CL (ab H' aav (.be [.str ⟨#[b.toNat]⟩,.str (S v)])) ln p pl ql sl (S u) ps qs fo:=⟨⟨fv,j _ _ g1,g2.aT (aa.aT j)⟩,j _ _ g3,j _ _ g4,j _ _ g5,g6,g7,g8⟩;have d1:(fW (db u)).drop i=b::(fW (db u)).drop (i+1):=by obtain⟨q1,q2⟩:=List.getElem?_eq_some_iff.mp hb;rw[List.drop_eq_getElem_cons q1,q2]
  have d2:fs.drop i=v::fs.drop (i+1):=by obtain⟨q1,q2⟩:=List.getElem?_eq_some_iff.mp k;rw[List.drop_eq_getElem_cons q1,q2]
  rw[d1,d2]at d;have hvs:=PR v (List.mem_of_getElem? k);have back:∀f,Kl ln pl ql (ab H' aav (.be [.str ⟨#[b.toNat]⟩,.str (S v)])) f->aa H f/\f D=O (.ae (wV fs)):=λf s=>⟨λa o e=>s _ _ (j _ _ (X _ _ e)) (bv e vR) (bv e yL) (bv e yM),s _ _ (j _ _ PY) G4 tM nDq⟩
  have I:rd (fW (db u)) fs ([],[],U)=U->∀f,aa H f->Q .aQ f:=λe f s6=>by
   rw[PU]at e;exact kn (by
    cases z:(d3 (adu (db u)) fs ([],U)).bind (cD (db u))with
    |none=>rfl
    |some r=>rw[z]at e;cases e) f s6
  refine⟨aav,_,J,aV.of aq,J,_,_,J,_,_,J,J,?_⟩;refine⟨p,_,j _ _ g1,J,ln,p,pl,ql,sl,_,ps,qs,fo,b,v,J,acg,Z,hvs.2,Z,Z,λa2 f s a3=>?_,λa2 kX=>?_,λa2 n vI f s a3=>?_⟩
  .obtain⟨Cg,qP⟩:=back f s;have AZ:((ß v).bind λA=>rd ((fW (db u)).drop (i+1)) (fs.drop (i+1)) (ps,qs,O A))=rd (fW (db u)) fs ([],[],U):=by rw[<-d,a2];rfl
   cases ef:ß v with
   |none=>rw[ef]at AZ;exact(I AZ.symm f Cg)
   |some A=>rw[ef]at AZ a3;exact⟨ps,qs,O A,_,_,J,Cg,qP,a3,AZ,Z,Z⟩
  .rw[jv _ _ _ _ _ a2,kX]at d;exact(I d.symm _ (X.trans j))
  .obtain⟨Cg,qP⟩:=back f s;rw[jv _ _ _ _ _ a2,vI]at d;refine(⟨_,_,fo,_,_,J,Cg,qP,a3,d,?_,?_⟩)
   .split<;>first|lia |(simp only[List.length_append,List.length_singleton];lia)
   .split<;>first|lia |(simp only[List.length_append,List.length_singleton];lia)
 .rintro a0 H' ⟨ps,qs,fo,R,a1,rfl,X,PY,Y,d,b1,b2⟩;rw[rO,List.drop_length,<-hlen,List.drop_length,PU]at d;have d:O (ps,qs,fo)=_:=d;cases z:(d3 (adu (db u)) fs ([],U)).bind (cD (db u))with
  |none=>rw[z]at d;cases d
  |some r=>
   rw[z]at d;have e3:(ps,qs,fo)=eZ r:=Option.some.inj d;unfold eZ at e3;simp only[Prod.mk.injEq]at e3;obtain⟨rfl,rfl,rfl⟩:=e3;have ew:bp r=u:=by
    cases y:d3 (adu (db u)) fs ([],U)with
    |none=>rw[y]at z;exact eG z
    |some h=>rw[y]at z;have h1:=ab8 (show cD (db u) h=O r from z);rw[ab7 hw]at h1;exact(Option.some.inj h1).symm
   rw[M7,<-ew]at Y;exact g r z H' ln p pl ql sl X vR yL yM PX Y
def Fk:(ps.all λi=>decide (i<Pf.length))=!(ps.any λp=>decide (Pf.length<=p)):=by
 rw[List.not_any_eq_all_not];congr 1;funext i;by_cases h:i<Pf.length
 .rw[decide_eq_true h,decide_eq_false Z];rfl
 .rw[decide_eq_false h,decide_eq_true Z];rfl
def M_:(ps.all λi=>!Ħ Pf i)=!(ps.any λp=>Ħ Pf p):=by rw[afv]
def ach(h:oB Pf (Ë r)≠0):ġ Pf r=.error (oB Pf (Ë r)):=by
 unfold ġ;unfold oB at h⊢;rw[Fk,M_];cases h1:((Ë r).any λp=>decide (Pf.length<=p))with
 |true=>rfl
 |false=>
  rw[h1]at h;cases h2:((Ë r).any λp=>Ħ Pf p)with
  |true=>cases ϊ (Ë r)<;>rfl
  |false=>
   rw[h2]at h;cases a:ϊ (Ë r)with
   |true=>rw[a]at h;exact absurd J h
   |false=>rfl
def aci(h:oB Pf (Ë r)=0):(∀i∈Ë r,i<Pf.length)/\ġ Pf r=if oz (Î Pf) r=0 then after (decide ((aeM (Î Pf) r).length<=20)&&(aeM (Î Pf) r).all Ø) 6 (after (decide (Pf.length<200)) 7 (.ok (Pf++[⟨r,aeM (Î Pf) r⟩])))else .error (oz (Î Pf) r):=by
 unfold oB at h;cases h1:((Ë r).any λp=>decide (Pf.length<=p))with
 |true=>rw[h1]at h;cases h
 |false=>
  rw[h1,ai gn]at h;cases h2:((Ë r).any λp=>Ħ Pf p)with
  |true=>rw[h2]at h;cases h
  |false=>
   rw[h2,ai gn]at h;cases a:ϊ (Ë r)with
   |false=>rw[a]at h;cases h
   |true=>
    refine⟨λi hi=>?_,?_⟩
    .let:=Fk (Pf:=Pf) (ps:=Ë r);rw[h1]at this;exact dR<|dQ.mp this i hi
    .unfold ġ;rw[Fk,M_,h1,h2,a,qa];unfold aeN oz;by_cases s1:bI ((Ë r).map<|Î Pf) (bR r)=true
     .rw[aj s1,aj s1];by_cases s2:aeF (Î Pf) r=true
      .rw[aj s2,aj s2];rfl
      .rw[ai s2,ai s2];rfl
     .rw[ai s1,ai s1];rfl
def acj(b:∀i,∀A∈sq i,Å A<=200)(c:∀A,ad0 r=O A->Å A<=200)(st:bI ((Ë r).map sq) (bR r)=true):∀A∈aeM sq r,Å A<=401:=by
 have w:∀ps i,∀A∈wo ps (sq i),Å A<=401:=λps i A h=>by have:=b i A<|aeQ h;lia
 have a:∀i p,p<(sq i).length->Å (bu (sq i) p)<=200:=λi p h=>b i _<|aeR h;have c8:∀L B,(∀A∈L,Å A<=401)->Å B<=401->∀A∈L++[B],Å A<=401:=λL B h1 h2 A h=>by
  rcases d6.mp h with h|h
  .exact h1 A h
  .exact F_.mp h▸h2
 have two:∀L M,(∀A∈L,Å A<=401)->(∀A∈M,Å A<=401)->∀A∈L++M,Å A<=401:=λL M h1 h2 A h=>(d6.mp h).elim (h1 A)<|h2 A;cases r with
 |ax B=>
  intro A h;have e:=c B J;have h:A=B\/A=Æ B:=by simpa[aeM]using h
  rcases h with rfl|rfl
  .lia
  .rw[fN];lia
 |cut i p j q=>exact two _ _ (w _ _)<|w _ _
 |tensor i p j q=>exact c8 _ _ (two _ _ (w _ _)<|w _ _) (by obtain⟨x,y⟩:=afV st;have:=a i p x;have:=a j q y;simp only[Å];lia)
 |par i p q=>exact c8 _ _ (w _ _) (by obtain⟨x,y,_⟩:=afU st;have:=a i p x;have:=a i q y;simp only[Å];lia)
 |wth i p j q=>exact c8 _ _ (w _ _) (by obtain⟨x,y⟩:=afV st;have:=a i p x;have:=a j q y;simp only[Å];lia)
 |plus1 i p B|plus2 i p B=>exact c8 _ _ (w _ _) (by have:=a i p<|afy st;have:=c B J;simp only[Å];lia)
 |der i p|prom i p=>exact c8 _ _ (w _ _) (by have:=a i p<|afy st;simp only[Å];lia)
 |weak i B=>exact c8 _ _ (λA d=>by have:=b i A d;lia) (by have:=c B J;simp only[Å];lia)
 |con i p q=>exact c8 _ _ (w _ _) (by have:=a i p (afU st).1;lia)
 |ex i p q=>
  intro A h;rcases xN h with h|rfl
  .rcases xN h with h|rfl
   .have:=b i A h;lia
   .have:=a i q (afU st).2.1;lia
  .have:=a i p (afU st).1;lia
def ack(a:∀i,(sq i).length<=20):(aeM sq r).length<=50:=by
 have w:∀ps i,(wo ps<|sq i).length<=20:=λps i=>d5 (AJ _ _)<|a i;cases r with
 |ax B=>simp[aeM]
 |cut i p j q=>let:=w [p] i;let:=w [q] j;simp only[aeM,bw];lia
 |tensor i p j q=>let:=w [p] i;let:=w [q] j;simp only[aeM,bw,dP];lia
 |par i p q|con i p q=>let:=w [p,q] i;simp only[aeM,bw,dP];lia
 |wth i p j q|plus1 i p B|plus2 i p B|der i p|prom i p=>let:=w [p] i;simp only[aeM,bw,dP];lia
 |weak i B=>let:=a i;simp only[aeM,bw,dP];lia
 |ex i p q=>let:=a i;simp only[aeM,FY];lia
def acl(h:oz sq r=0):bI ((Ë r).map sq) (bR r)=true:=by
 unfold oz at h;split at h
 next q=>exact q
 .cases h
theorem Fn:∀{bl:List Bool}{fs:List Ä}{h h':om}{A:Â},d3 bl fs h=O h'->h'.2=O A->h.2=O A\/∃u,ß u=O A
|[],[],h,h',A,e,a=>by
 have:h=h':=cZ e
 exact .inl (by rw[this];exact a)
|true::bl,t::fs,h,h',A,e,a=>by
 have e:((ß t).bind λB=>d3 bl fs (h.1,O B))=O h':=e;cases q:ß t with
 |none=>rw[q]at e;cases e
 |some B=>
  rw[q]at e;rcases Fn (h:=(h.1,O B)) e a with z|z
  .cases z;exact .inr ⟨t,q⟩
  .exact .inr z
|false::bl,t::fs,h,h',A,e,a=>by
 have e:((Û t).bind λn=>d3 bl fs (h.1++[n],h.2))=O h':=e;cases q:Û t with
 |none=>rw[q]at e;cases e
 |some n=>rw[q]at e;exact Fn (h:=(h.1++[n],h.2)) e a
|[],_::_,h,h',A,e,a|true::_,[],h,h',A,e,a|false::_,[],h,h',A,e,a=>by cases e
def acm{h}(e:cD k h=O r):ad0 r=h.2:=by rcases k with _|_|_|_|_|_|_|_|_|_|_|_|k<;>rcases h with⟨_|⟨_,_|⟨_,_|⟨_,_|⟨_,_|_⟩⟩⟩⟩,_|_⟩<;>first|cases e;rfl|exact eG e
def M'(h:ļ t=O r):∀A,ad0 r=O A->aE A=true/\Ø A=true:=λA a=>by
 rw[<-DX]at h;unfold zX at h;simp only[]at h;split at h
 .split at h
  .generalize b:d3 _ _ _=o at h;cases o with
   |none=>exact eG h
   |some x=>
    have h1:cD _ x=O r:=h;rw[acm h1]at a;rcases Fn b a with z|⟨u,z⟩
    .cases z
    .exact Ee z
  .cases h
 .cases h
theorem uY:∀{vals:List V},(∀(i:Nat)(v:V),vals[i]?=O v->∃a,v=V.ref a)->∃l:List À,vals=l.map V.ref
|[]=>λ_=>⟨[],J⟩
|v::r=>λh=>by
 obtain⟨a,rfl⟩:=h 0 v J;obtain⟨l,e⟩:=uY (vals:=r) λi v b=>h (i+1) v b;exact⟨a::l,by rw[e];rfl⟩
def SeqAt.aO(h:SeqAt H sl Sq)(b:H ln=O (.aO C dx fs)):SeqAt (ab H ln o) sl Sq:=by obtain⟨xs,e,r,q⟩:=h;refine⟨xs,by rw[au<|aY e b nofun];exact e,λx a=>⟨by rw[au<|aY (r x a).1 b nofun];exact(r x a).1,(r x a).2⟩,q⟩
def FV.aO(b:H ln=O (.aO C dx fs)):∀{f:Option Â},FV H v f->FV (ab H ln o) v f
|none,h=>h
|some _,⟨a,e,h⟩=>⟨a,e,by rw[au<|aY h.1 b nofun];exact h.1,h.2⟩
def bA.f7(h:bA CL H ll as Pf):(as.map V.ref).length=Pf.length:=by rw[aK];exact h.len
def bA.snoc{l}(h:bA CL H ll as Pf)(c:gT CL H ll ln l):bA CL (ab H ll (.ae (as.map V.ref++[.ref ln]))) ll (as++[ln]) (Pf++[l]):=by
 have kb:Kb ll H (ab H ll<|.ae<|as.map V.ref++[.ref ln]):=Kb.ab;refine⟨by rw[aq,bU];rfl,by simp[h.len],λi m e=>?_⟩;by_cases q:i<Pf.length
 .rw[jX q]at e;obtain⟨a,d,e2⟩:=h.at_ i m e;exact⟨a,jX (by rw[h.len];exact q)▸d,e2.kb kb h.ae⟩
 .rw[lY Z]at e;have b:i-Pf.length=0:=by
   by_cases z:i-Pf.length=0
   .exact z
   .rw[j0 (by simp;lia)]at e;exact eG e
  rw[b]at e;cases e;refine⟨ln,?_,c.kb kb h.ae⟩;rw[lY (by rw[h.len];lia),h.len,b];rfl
inductive acn(CL:À)(vs:List V)(H:Hp)(Q:VK)(_:XK):Prop|m(ll as Pf t:_)(_:vs=[.ref ll,.str<|S t])(_:bA CL H ll as Pf)(_:cj Pf)(_:t.length<=100000)(_:fh t=true)(_:(∀n,Ć Pf t=.error n->∀H',aa H H'->Q (.int (n:Nat)) H'))(_:(∀Pf',Ć Pf t=.ok Pf'->∀H' bg,Kb ll H H'->bA CL H' ll bg Pf'->Q (.int 0) H'))
def Na:Ok P w K mg base 14 "add_line" ["lines","text"] (acn CL):=bh ["lines","text","line","reason","sequents","premise"] T.Yz λH vs Q nd y h=>by
 obtain⟨ll,as,Pf,t,rfl,a3,p,hz,ha,B,ko⟩:=h;refine⟨_,az (ys 2 nd<|yc (acb T) y<|y1<|pv 1)<|az (yw (yq kj (pv 2) cH)<|yr<|bj T.Yw)<|az (ys 3 nd<|yc (abY T) y<|y2 (pv 2)<|pv 0)<|az (yw (yq ki (pv 3)<|bj T.oo)<|yr<|pv 3)<|az (yy 4 5 nd (dm<|yf<|pv 2) λ_ _ _ _ _=>(yg K<|yk K (pv 0)<|pv 5))<|az (ys 3 nd<|yc (abT T) y<|y2 (pv 2)<|pv 4)<|az (yw (yq ki (pv 3)<|bj T.oo)<|yr<|pv 3)<|az (yu (pv 2)<|yc (MB T) y (y2 (pv 2) (pv 4)))<|az (yw (gy (d_ (yc (abP T) y (y1 (yf (pv 2)))))) (yr (bj T.Yx))) (az (yw (yq wm (ye T.cS (pv 0)) (bj T.LY)) (yr (bj T.Yy))) (az (yA (pv 0) (pv 2)) (yr (bj T.oo)))),?_⟩;have nP:=T.nL "premises" gn;have nS:=T.nL "sequent" gn;have c:Ć Pf t=ŗ (ļ t) 1 (ġ Pf):=J;have afz:=p.len;refine⟨t,J,hz,ha,λf H1 L=>?_,λC er H1 ln dx pl ql sl L vR yL yM PX M=>?_⟩
 .refine⟨J,B 1 ?_ H1 L⟩;rw[c,f];rfl
 refine⟨J,?_⟩;rw[er]at c;have c:Ć Pf t=ġ Pf C:=c;rw[<-Wb (λl hl=>by have:=(p.jh l hl).len;lia) Z C]at c;have N:=M' er;rw[<-M7 C]at N M;rw[<-ab9 C]at M;generalize iV C=r at c N M;have⟨⟨fv,m,g2⟩,E,g4,g5,il,qk,qm⟩:=M;have mf:=a3.same L;refine⟨ln,dx,pl,ql,sl,fv,_,Ë r,ll,as,Pf,J,m,E,lO r,mf,Z,λH2 d=>?_⟩;have dj:=L.trans d;have dZ:=mf.same d;have ei:∀n,(!decide (V.int (n:Nat)=V.int 0))=!decide (n=0):=λn=>by congr 1;exact decide_eq_decide.mpr ⟨λz=>by injection z with z;lia,λz=>by rw[z];rfl⟩
 refine⟨J,?_⟩;show if(!decide (V.int (oB Pf (Ë r))=V.int 0))=true then _ else _;rw[ei];by_cases a0:oB Pf (Ë r)=0
 case neg=>exact decide_eq_false a0▸(B _ (by rw[c];exact ach a0) H2 dj)
 rw[decide_eq_true a0];obtain⟨plt,eX⟩:=aci a0;rw[eX]at c;refine⟨CL,dx,_,_,d _ _ m,T.bb,nP,J,pl,J,⟨_,ao.of<|d _ _ E⟩,λss G5=>DO (xs:=nv (Ë r)) (R:=λi v _=>c2 λn sq=>(Ë r)[i]?=O n/\v=.ref sq/\SeqAt H2 sq (Î Pf n)) (by show 5<6;decide) (ao.of<|d _ _ E) (by rw[dA];have:=lO r;lia) G5 (λ_ _ _ _ h _=>h) (λi x hx H' Q' s' q=>?_) λH3 vals g G6 jj hv=>?_⟩
 .refine gg λP0 p0=>?_;obtain⟨n,f,rfl⟩:=jw hx;have hn:=plt n<|List.mem_of_getElem? f;obtain⟨a,ea,vQ⟩:=dZ.at_ n Pf[n] (by simp[hn]);refine p0 ?_;have Fo:Î Pf n=Pf[n].sequent:=by unfold Î;rw[List.getElem?_eq_getElem hn];rfl
  obtain⟨bB,mh,vS,fT,nI,Γ,Ε,k3,k4,k5,_⟩:=vQ;refine⟨_,.ref _,ao.of<|s' _ _ dZ.ae,cb (by rw[List.getElem?_map,ea];rfl),CL,bB,_,_,s' _ _ Γ,T.bb,nS,J,q H' _ (aa.refl H') ⟨n,fT,f,J,Fo▸k5⟩⟩
 have f6:=dj.trans g;obtain⟨a1,rfl⟩:=uY λi v h=>have⟨_,sq,_,e,_⟩:=hv i v h;⟨sq,e⟩;rw[List.length_map,dA]at jj;have hI:iN K CL H3 ln ss (bR r) (ad0 r) ((Ë r).map (Î Pf)):=by
  refine⟨⟨dx,_,pl,ql,sl,fv,g _ _<|d _ _ m,g _ _<|d _ _ g4,(g2.aT<|aa.aT d).aT<|aa.aT g⟩,⟨a1,ao.of G6,by rw[List.length_map];exact jj,λi Sq e=>?_⟩,λSq G7=>?_,λA k=>?_⟩
  .rw[List.getElem?_map]at e;cases f:(Ë r)[i]? with
   |none=>rw[f]at e;exact eG e
   |some n=>
    rw[f]at e;cases e;have hi:i<a1.length:=jj▸(List.getElem?_eq_some_iff.mp f).1;have⟨n',sq,e1,e2,e3⟩:=hv i (V.ref a1[i]) (by rw[List.getElem?_map,List.getElem?_eq_getElem hi];rfl);rw[f]at e1;cases e1;cases e2;exact⟨a1[i],List.getElem?_eq_getElem hi,e3.same g⟩
  .obtain⟨n,_,rfl⟩:=List.mem_map.mp G7;refine⟨by have:=p.Ed n;lia,λA k=>?_⟩;have:=p.seq n A k;exact⟨this.1,by have:=(kC this.2).1;lia⟩
  .have:=N A k;exact⟨this.1,by have:=(kC this.2).1;lia⟩
 refine⟨ln,ss,r,Î Pf,J,hI,⟨dx,pl,ql,sl,fv,g _ _<|d _ _ m⟩,λH4 F=>?_⟩;have Fp:=f6.trans F;refine⟨J,?_⟩;show if(!decide (V.int (oz (Î Pf) r)=V.int 0))=true then _ else _;rw[ei];by_cases G:oz (Î Pf) r=0
 case neg=>rw[decide_eq_false G];rw[if_neg G]at c;exact(B _ c H4 Fp)
 rw[decide_eq_true G];rw[if_pos G]at c;have bE:=acl G;have Nc:H4 ln=O (.aO CL dx<|lf (S<|bp r) pl ql fv sl):=F _ _<|g _ _<|d _ _ m;refine⟨ln,ss,r,Î Pf,J,⟨hI.same F,⟨dx,pl,ql,sl,fv,Nc⟩,bE⟩,λI D aav nD hD=>?_⟩;have uZ:=aav _ _ Nc;refine⟨CL,dx,_,uZ,T.bb,nS,by show 5<1000;decide,?_⟩;rw[show c_ "sequent" (.ref D) (lf (S<|bp r) pl ql fv sl)=lf (S<|bp r) pl ql fv D from J];have G8:=Fp.trans aav;have sB:aa H (ab I ln<|.aO CL dx<|lf (S<|bp r) pl ql fv D):=λb o e=>by rw[au<|bv e vR];exact G8 _ _ e
 have qP:SeqAt (ab I ln<|.aO CL dx<|lf (S<|bp r) pl ql fv D) D (aeM (Î Pf) r):=hD.aO uZ;have mn:=acj (λi A k=>(kC (p.seq i A k).2).1) (λA k=>(kC (N A k).2).1) bE;have ml':=ack (r:=r) p.Ed;refine⟨CL,dx,_,_,aq,T.bb,nS,J,D,_,J,qP,Z,λA k=>by have:=mn A k;lia,λX a2=>?_⟩;have Y:=sB.trans a2;cases hb:(decide ((aeM (Î Pf) r).length<=20)&&(aeM (Î Pf) r).all Ø)with
 |false=>rw[hb]at c;exact B 6 c X Y
 |true=>
  rw[hb]at c;have c:Ć Pf t=after (decide<|Pf.length<200) 7 (.ok<|Pf++[⟨r,aeM (Î Pf) r⟩]):=c;have s:=a3.same Y;refine⟨ll,_,J,.inl<|ao.of s.ae,?_⟩;rw[s.f7];refine dq (λu=>?_) λu=>?_
  .have u:=of_decide_eq_true u;rw[decide_eq_false Z]at c;exact B 7 c X Y
  .have u:Pf.length<200:=by
    by_cases z:Pf.length<200
    .exact z
    .exact absurd (decide_eq_true Z) u
   rw[decide_eq_true u]at c;have c:Ć Pf t=.ok (Pf++[⟨r,aeM (Î Pf) r⟩]):=c;refine⟨.inl ⟨J,_,ao.of s.ae⟩,ll,_,_,J,J,s.ae,by rw[s.f7,sizeLine_eq];lia,?_⟩;have n5:∀{b:À}{o:HO},I b=O o->b≠ln->X b=O o:=λ{b o} e ne=>a2 _ _ (au ne▸e);have xx:=a3.ae;have c5:∀{b:À}{o:HO},H1 b=O o->I b=O o:=λe=>aav _ _<|F _ _<|g _ _<|d _ _ e;have k7:gT CL X ll ln ⟨r,aeM (Î Pf) r⟩:=by
    refine⟨dx,pl,ql,D,fv,a2 _ _ aq,n5 (c5 E)<|aY E m nofun,n5 (c5 g4)<|aY g4 m nofun,?_,qP.same a2,λz=>?_,λz=>?_,λz=>?_⟩
    .have:FV I fv (ad0 r):=((((g2.aT<|aa.aT d).aT<|aa.aT g).aT<|aa.aT F).aT<|aa.aT aav);exact(this.aO uZ).aT<|aa.aT a2
    .rw[z,xx]at yL;cases yL
    .rw[z,xx]at yM;cases yM
    .rw[z,Fp _ _ xx]at nD;cases nD
   exact ko _ c _ _ ((aa.kb Y).trans Kb.ab)<|s.snoc k7
def aco(H:Hp)(nb:À)(f:Nat->Nat)(ps:List Nat):Prop:=(∃ag,H nb=O (.dK ag)/\∀n∈ps,bT ag (.inl (n:Int))=O (.int (f n:Nat)))\/(∃xs,H nb=O (.ae xs)/\∀n∈ps,xs[n]?=O (.int (f n:Nat)))
inductive acp(CL:À)(vs:List V)(H:Hp)(Q:VK)(_:XK):Prop|m(ln nb dx pl ql sl:À)(kd:Ã)(fv:V)(ps:List Nat)(f:Nat->Nat)(_:vs=[.ref ln,.ref nb])(_:H ln=O (.aO CL dx<|lf kd pl ql fv sl))(_:H pl=O (.ae<|nv ps))(_:ps.length<=2)(_:aco H nb f ps)(_:∀(H':Hp)(p bB mh:À),aa H H'->H p=U->H mh=U->H' p=O (.aO CL bB<|lf kd mh ql fv sl)->H' mh=O (.ae<|nv<|ps.map f)->Q (.ref p) H')
def Nd:Ok P w K mg base 3 "renumbered" ["line","numbers"] (acp CL):=bh ["line","numbers","premises","premise"] T.YA λH vs Q nd l h=>by
 obtain⟨ln,p,dx,pl,ql,sl,kd,fv,ps,g,rfl,h1,h2,a1,B,k⟩:=h;refine⟨_,az (yy 2 3 nd (dm<|yf<|pv 0) λ_ _ _ _ _=>(Vo (Dn (jp l) (pv 1) (pv 3) λ_ _=>J) (ug (Kd (K:=K) J) (pv 1) (pv 3) λ_ _=>J)))<|yr<|vD (AS T) (l.dE gn) J<|bx (yf<|pv 0)<|bx (pv 2)<|bx (yf<|pv 0)<|bx (yf<|pv 0)<|bx (yf<|pv 0) cW,?_⟩;let C:=T.nL "kind" gn;let E:=T.nL "premises" gn;let F:=T.nL "places" gn;let G:=T.nL "formula" gn;let I:=T.nL "sequent" gn;refine⟨CL,dx,_,_,h1,T.bb,E,J,pl,J,⟨_,ao.of h2⟩,λD r=>lq (K:=K) (a:=pl) (xs:=nv ps) (vals:=nv<|ps.map g) (by show 3<4;decide) (ao.of h2) (by rw[dA,dA,aK]) (by rw[dA];lia) r (λi x v a2 L H' V s' q=>?_) λM d N=>?_⟩
 .obtain⟨n,s,rfl⟩:=jw a2;obtain⟨m,t,rfl⟩:=jw L;rw[aR,s]at t;cases t;let u:=bM s;rcases B with⟨ag,f,e2⟩|⟨xs,f,e2⟩
  .exact .inl ⟨p,_,J,by rw[<-e2 n u];exact fE.k (k:=.inl (n:Int))<|s' _ _ f,q H'<|aa.refl H'⟩
  .exact .inr ⟨_,_,ao.of<|s' _ _ f,cb (j:=n)<|e2 n u,q H'<|aa.refl H'⟩
 let c:=d _ _ h1;refine⟨CL,dx,_,_,c,T.bb,C,J,CL,dx,_,_,c,T.bb,F,J,CL,dx,_,_,c,T.bb,G,J,CL,dx,_,_,c,T.bb,I,J,λx y nx a0 ne=>⟨x,y,D,ql,sl,kd,fv,J,aq,λz R S=>⟨J,?_⟩⟩⟩;let A:aa M z:=λb o e=>S b o (by rw[au<|bv e nx,au<|bv e a0];exact e)<|bv e nx;refine k z x y D (d.trans A) ?_ r R<|A _ _ N;cases e:H x with
 |none=>rfl
 |some o=>rw[d _ _ e]at nx;cases nx
def pf(ll:À):List (Ã×V):=[("lines",.ref ll)]
inductive acq(CP:À)(vs:List V)(H:Hp)(Q:VK)(_:XK):Prop|m(pr dx:À)(_:vs=[.ref pr])(_:H pr=O (.aO CP dx []))(_:∀(H':Hp)(ll:À),H ll=U->H' pr=O (.aO CP dx<|pf ll)->H' ll=O (.ae [])->(∀b o,H b=O o->b≠pr->H' b=O o)->Q .aQ H')
def acr:qH P w K mg base 1 "Proof" CP ["self"] (acq CP):=yC ["self"] T.YB λH vs Q nd d h=>by
 obtain⟨pr,dx,rfl,h1,k⟩:=h;refine⟨_,bS<|yu (pv 0)<|bH cW,?_⟩;refine⟨gn,λll a=>⟨CP,dx,_,by rw[au<|bv h1 a];exact h1,T.cg,T.eQ,by decide,?_⟩⟩;refine k _ ll a aq ?_ λb o e c=>by rw[au c,au<|bv e a];exact e
 rw[au<|cB<|bv h1 a,aq]
inductive acs(CL CP:À)(vs:List V)(H:Hp)(Q:VK)(_:XK):Prop|m(pr dx ll:À)(as:List À)(Pf:Ê)(n:Int)(_:vs=[.ref pr,.int n])(_:H pr=O (.aO CP dx<|pf ll))(_:bA CL H ll as Pf)(_:Q (.bl<|decide<|0<=n/\n<(Pf.length:Nat)) H)
def act:cX P w K mg base 1 CP "has_line" ["self","number"] (acs CL CP):=dB ["self","number"] T.YC λH vs Q nd c h=>by
 obtain⟨pr,dx,ll,as,Pf,n,rfl,h1,b,k⟩:=h;refine⟨_,yr<|Ry ud CV aG (pv 1)<|ye T.cS<|yf<|pv 0,?_⟩;refine(dq (λa=>?_) λa=>?_)
 .have a:=dR a;refine⟨CP,dx,_,_,h1,T.cg,T.eQ,J,ll,_,J,.inl<|ao.of b.ae,?_⟩;rw[b.f7];have e:decide (n<((Pf.length:Nat):Int))=decide (0<=n/\n<(Pf.length:Nat)):=iC.mpr ⟨λz=>⟨a,z⟩,λz=>z.2⟩;rw[<-e]at k;exact k
 .have e:decide (0<=n/\n<(Pf.length:Nat))=false:=bO λz=>a (bP z.1);rw[e]at k;exact k
inductive acu(CL CP:À)(vs:List V)(H:Hp)(Q:VK)(_:XK):Prop|m(pr dx ll:À)(as:List À)(Pf:Ê)(t:Ä)(_:vs=[.ref pr,.str<|S t])(_:H pr=O (.aO CP dx<|pf ll))(_:bA CL H ll as Pf)(_:cj Pf)(_:t.length<=100000)(_:fh t=true)(_:(∀n,Ć Pf t=.error n->∀H':Hp,aa H H'->Q (.int (n:Nat)) H'))(_:(∀Pf',Ć Pf t=.ok Pf'->∀(H':Hp)(bg:List À),Kb ll H H'->bA CL H' ll bg Pf'->Q (.int 0) H'))
def acv:cX P w K mg base 15 CP "grow" ["self","text"] (acu CL CP):=dB ["self","text"] T.YD λH vs Q nd a h=>by obtain⟨pr,dx,ll,as,Pf,t,rfl,h1,b,c,d,e,Γ,Ε⟩:=h;refine⟨_,yr<|yc (Na T) a<|y2 (yf<|pv 0)<|pv 1,?_⟩;exact⟨CP,dx,_,_,h1,T.cg,T.eQ,J,ll,as,Pf,t,J,b,c,d,e,Γ,Ε⟩
def bA.drop(h:bA CL H ll as Pf):bA CL (ab H ll (.ae (as.map V.ref).dropLast)) ll as.dropLast Pf.dropLast:=by
 have kb:Kb ll H (ab H ll<|.ae (as.map V.ref).dropLast):=Kb.ab;refine⟨by rw[aq,Ìf],by rw[FZ,FZ,h.len],λi l e=>?_⟩;have hi:i<Pf.length-1:=by let:=(b9.mp e).1;rw[FZ]at this;exact this
 rw[Bz,aj hi]at e;obtain⟨a,b,e2⟩:=h.at_ i l e;exact⟨a,by rw[Bz,aj (by rw[h.len];exact hi)];exact b,e2.kb kb h.ae⟩
inductive acw(CL CP:À)(vs:List V)(H:Hp)(Q:VK)(_:XK):Prop|m(pr dx ll:À)(as:List À)(Pf:Ê)(_:vs=[.ref pr])(_:H pr=O (.aO CP dx<|pf ll))(_:bA CL H ll as Pf)(_:Pf≠[])(_:∀(H':Hp)(bg:List À),Kb ll H H'->bA CL H' ll bg Pf.dropLast->Q .aQ H')
def acx:cX P w K mg base 1 CP "shrink" ["self"] (acw CL CP):=dB ["self"] T.YE λH vs Q nd c h=>by
 obtain⟨pr,dx,ll,as,Pf,rfl,h1,a,cu,k⟩:=h;refine⟨_,bS<|gN<|li jz mV mW lm<|yf<|pv 0,?_⟩;have d:0<Pf.length:=Bq.mpr cu;have b:(as.map V.ref).length-1<(as.map V.ref).length:=by rw[a.f7];omega
 exact⟨CP,dx,_,_,h1,T.cg,T.eQ,J,.inl ⟨J,_,ao.of a.ae⟩,ll,_,_,J,J,a.ae,bL b,k _ _ Kb.ab a.drop⟩
inductive acy(CP:À)(vs:List V)(H:Hp)(Q:VK)(_:XK):Prop|m(pr dx ll:À)(v:V)(_:vs=[.ref pr,v])(_:H pr=O (.aO CP dx<|pf ll))(_:((v=.aQ/\Q (.bl false) H)\/∃l2,v=.ref l2/\Q (.bl true) (ab H pr<|.aO CP dx<|pf l2)))
def Nf:cX P w K mg base 1 CP "change" ["self","lines"] (acy CP):=by
 refine dB ["self","lines"] T.YF (λH vs Q nd a h=>?_) (by rintro _ _ _ _ ⟨_,_,_,_,rfl,_⟩;rfl);obtain⟨pr,dx,ll,v,rfl,h1,h2⟩:=h;refine⟨_,az (yw (yq kj (pv 1) cH)<|yr fK)<|az (yu (pv 0)<|pv 1)<|yr fK,?_⟩;rcases h2 with⟨rfl,q⟩|⟨l2,rfl,q⟩
 .exact⟨J,q⟩
 .refine⟨J,?_⟩;exact⟨CP,dx,_,h1,T.cg,T.eQ,by show 1<1000;decide,q⟩
theorem Ng:∀t:Ä,Ĝ t=if(Ú 10 t).getLast? =O []then(Ú 10 t).dropLast else Ú 10 t
|[]=>rfl
|c::r=>by
 let d:=Ng r;rw[ML];unfold Ĝ;let cu:Ú 10 r≠[]:=rG 10 r;match e:Ú 10 r,cu with
 |p::ps,_=>
  rw[e]at d;by_cases b:c=10
  .rw[aj b,aj b,d];rw[O0];split
   .rfl
   .rfl
  .rw[ai b,ai b,d];show _=if((c::p)::ps).getLast? =O []then((c::p)::ps).dropLast else(c::p)::ps;cases ps with
   |nil=>
    cases p with
    |nil|cons a p=>rfl
   |cons q qs=>
    rw[O0,O0];by_cases z:(q::qs).getLast? =O []
    .rw[aj z,aj z];rfl
    .rw[ai z,ai z]
def acz:fL xs U (O (-1))=xs.dropLast:=by
 unfold fL;let h1:HT.bi xs.length 0 U=0:=J;let h2:HT.bi xs.length xs.length (O (-1))=xs.length-1:=by show(if(-1)<0 then(-1+(xs.length:Int)).toNat else min (-1).toNat xs.length)=_;rw[aj gn];lia
 rw[h1,h2,jb,xG,List.dropLast_eq_take]
def acA(h:xs.getLast? =O v):gX xs (-1)=O v:=by
 have cu:0<xs.length:=by
  cases xs with
  |nil=>simp at h
  |cons _ _=>simp
 rw[OY]at h;unfold gX kY;rw[ai gn,aj Z];show xs[(-1+(xs.length:Int)).toNat]?=_;rw[show(-1+(xs.length:Int)).toNat=xs.length-1 by lia,h]
theorem Nh:∀(t:Ä),(Ĝ t).length<=t.length/\∀u∈Ĝ t,u.length<=t.length/\(fh t=true->fh u=true)
|[]=>⟨aN _,λu h=>by simp[Ĝ]at h⟩
|c::r=>by
 have a:=Nh r;have b:fh (c::r)=true->fh r=true/\decide (c<128)=true:=λh=>by unfold fh at h⊢;simp only[d7,aS]at h;exact⟨h.2,h.1⟩
 unfold Ĝ;split
 .refine⟨by simp only[aJ];lia,λu h=>?_⟩;rcases a_.mp h with rfl|h
  .exact⟨cM _,λ_=>J⟩
  .have:=a.2 u h;exact⟨by simp only[aJ];lia,λz=>this.2 (b z).1⟩
 .cases e:Ĝ r with
  |nil=>
   refine⟨Gc,λu h=>?_⟩;have:u=[c]:=by simpa using h
   rw[this];refine⟨Gc,λz=>?_⟩;unfold fh;rw[d7,(b z).2];rfl
  |cons l ls=>
   rw[e]at a;refine⟨by have:=a.1;simp only[aJ]at this⊢;lia,λu h=>?_⟩;rcases a_.mp h with rfl|h
   .have:=a.2 l Gc;refine⟨by simp only[aJ];lia,λz=>?_⟩;have h1:=this.2 (b z).1;unfold fh at h1⊢;rw[d7,(b z).2,h1];rfl
   .have:=a.2 u (by simp[h]);exact⟨by simp only[aJ];lia,λz=>this.2 (b z).1⟩
def Ni(h:Ć Pf t=.ok Pf')(g:cj Pf):cj Pf'/\Pf'.length=Pf.length+1:=by
 unfold Ć ŗ at h;cases a:ļ t with
 |none=>rw[a]at h;cases h
 |some r=>
  rw[a]at h;let h:ġ Pf r=.ok Pf':=h;refine⟨Wz g (λA b=>(M' a A b).1) h,?_⟩;obtain⟨c,h⟩:=qb h;obtain⟨e2,h⟩:=qb h;cases em:Þ (Î Pf) r with
  |error n=>rw[em]at h;cases h
  |ok S=>
   rw[em]at h;obtain⟨d,h⟩:=qb h;obtain⟨e,h⟩:=qb h;cases h;simp
def A4{A}{b}{x:Except Nat A}(h:after b n x=.error m):m=n\/x=.error m:=by
 unfold after at h;split at h
 .exact .inr h
 .cases h;exact .inl J
def Fq(h:Ć Pf t=.error n):n≠0:=by
 unfold Ć ŗ at h;cases a:ļ t with
 |none=>rw[a]at h;cases h;decide
 |some r=>
  rw[a]at h;let h:ġ Pf r=.error n:=h;rcases A4 h with rfl|h
  .decide
  rcases A4 h with rfl|h
  .decide
  rw[qa]at h;cases em:aeN (Î Pf) r with
  |error m=>
   rw[em]at h;cases h;unfold aeN at em;split at em
   .split at em
    .cases em
    .cases em;decide
   .cases em;decide
  |ok S=>
   rw[em]at h;rcases A4 h with rfl|h
   .decide
   rcases A4 h with rfl|h
   .decide
   cases h
def bA.obj{d:À}(h:bA CL H ll as Pf)(b:H pr=O (.aO CP dx (pf d))):bA CL (ab H pr o) ll as Pf:=by
 refine⟨by rw[au<|aY h.ae b nofun];exact h.ae,h.len,λi l e=>?_⟩;obtain⟨a,f,g,pl,ql,sl,fv,h1,h2,c,j,k,n⟩:=h.at_ i l e;refine⟨a,f,g,pl,ql,sl,fv,?_,?_,?_,j.aO b,k.aO b,n⟩
 .rw[au<|aY h1 b (by intro z;injection z with p q m;cases m)];exact h1
 .rw[au<|aY h2 b nofun];exact h2
 .rw[au<|aY c b nofun];exact c
inductive acB(vs:List V)(H:Hp)(Q:VK)(_:XK):Prop|m(t:_)(_:vs=[.str<|S t])(_:t.length<=100000)(_:∀H' D,aa H H'->H D=U->H' D=O (.ae<|wV<|Ĝ t)->Q (.ref D) H')
def acC:Ok P w K mg base 1 "line_texts" ["text"] acB:=bh ["text","pieces"] T.YG λH vs Q nd i h=>by
 obtain⟨t,rfl,j,k⟩:=h;refine⟨_,az (ys 1 nd<|JX (pv 0) cz)<|yr<|j_ (yq ki (yl (pv 1)<|pJ pK aG) cz) (pv 1)<|oh zh (pv 1) uf<|km<|pJ pK aG,?_⟩;refine⟨⟨_,J⟩,S t,S [10],J,J,J,by rw[bK,bn];lia,λD b=>?_⟩;rw[MM t 10 gn];have cu:Ú 10 t≠[]:=rG 10 t;have eq:=Ng t;generalize Ú 10 t=ps at cu eq;obtain⟨u,c⟩:∃u,ps.getLast? =O u:=by
  cases e:ps.getLast? with
  |some u=>exact⟨u,J⟩
  |none=>rw[afu]at e;exact absurd e cu
 rw[c]at eq;have f:(ps.map S).map V.str=wV ps:=by rw[cV];rfl
 rw[f];have ae:(wV ps).getLast? =O (.str (S u)):=by unfold wV;rw[List.getLast?_map,c];rfl
 have a:aa H (ab H D<|.ae (wV ps)):=aa.ab b;refine⟨_,J,_,_,ao.of aq,acA ae,J,?_⟩;show if(!decide (V.str (S u)=V.str (S [])))=true then _ else _;rw[fR];by_cases z:u=[]
 .rw[bP z];rw[aj (by rw[z])]at eq;refine aU ⟨_,J,_,J,D,_,J,ao.of aq,λg d=>?_⟩;refine k _ g (a.trans<|aa.ab d) (a.free d) ?_;rw[aq,acz,eq];unfold wV;rw[Ìf]
 .rw[bO z];rw[ai λy=>z<|cZ y]at eq;refine ba (k _ D a b ?_);rw[aq,eq]
inductive acD(CL CP:À)(vs:List V)(H:Hp)(Q:VK)(_:XK):Prop|m(pr dx ll t:_)(_:vs=[.ref pr,.str<|S t])(_:H pr=O (.aO CP dx<|pf ll))(_:t.length<=100000)(_:fh t=true)(_:(∀i n,Ľ t=.error (i,n)->∀H' tp,aa H H'->H' tp=O (.be [.int ((i+1:Nat)),.int n])->Q (.ref tp) H'))(_:(∀Pf',Ľ t=.ok Pf'->cj Pf'->∀H' d9 tp bg,H d9=U->H' pr=O (.aO CP dx<|pf d9)->bA CL H' d9 bg Pf'->Kb pr H H'->H' tp=O (.be [.int 0,.int 0])->Q (.ref tp) H'))
def acE(T:Tx P w K mg CR CL CP CF CT):cX P w K mg base 15 CP "become" ["self","text"] (acD CL CP):=dB ["self","text","lines","line_text","reason"] T.YH λH vs Q nd v h=>by
 obtain⟨pr,dx,M,t,rfl,h1,N,a0,R,a1⟩:=h;refine⟨_,az (ys 2 nd (bH cW)) (az (yo (dm (yc (acC T) v (y1 (pv 1)))) (yx 3 nd) (az (ys 4 nd (yc (Na T) v (y2 (pv 2) (pv 3)))) (bS (yw (yq ki (pv 4) (bj T.oo)) (yr (pL (y2 (cJ wk (ye T.cS (pv 2)) aG) (pv 4)))))))) (az (yu (pv 0) (pv 2)) (yr (pL (y2 aG (bj T.oo)))))),?_⟩;refine⟨gn,λll o=>?_⟩;have aav:aa H (ab H ll (.ae [])):=aa.ab o;refine⟨t,J,N,λH1 D x A p=>?_⟩;have X:=aav.trans x;have B:=Nh t;have C:Ľ t=ű 0 [] (Ĝ t):=J;generalize Ĝ t=rows at p B C;have Y:D≠ll:=λz=>by rw[z,aq]at A;cases A
 refine⟨D,J,⟨_,ao.of p⟩,kh (xs:=wV rows) (λi f H'=>c4 λg j as Pf=>f=[O (.ref pr),O (.str (S t)),O (.ref ll),g,j]/\aa H H'/\H' D=O (.ae (wV rows))/\bA CL H' ll as Pf/\cj Pf/\Pf.length=i/\Ľ t=ű i Pf (rows.drop i))
  ⟨U,U,[],[],J,X,p,⟨x _ _ aq,J,λi l e=>by simp at e⟩,Af,J,by rw[C];rfl⟩ ?_ ?_ ?_⟩
 .rintro i f H' _ ⟨g,j,as,Pf,rfl,c,q,_⟩;exact ao.of q
 .rintro i y f H' a3 ⟨g,j,as,Pf,rfl,c,q,d,k,E,b⟩;obtain⟨u,m,rfl⟩:=jP a3;have hi:i<rows.length:=(List.getElem?_eq_some_iff.mp m).1;have ed:rows.drop i=u::rows.drop (i+1):=by rw[List.drop_eq_getElem_cons hi];congr 1;rw[List.getElem?_eq_getElem hi]at m;exact Option.some.inj m
  rw[ed]at b;have F:=B.2 u (List.mem_of_getElem? m);refine⟨ll,as,Pf,u,J,d,k,by lia,F.2 a0,λn G H2 I=>?_,λPf' a2 H2 bg Ε dZ=>?_⟩
  .have ef:Ľ t=.error (i,n):=by rw[b];show(match Ć Pf u with |.error n=>_ |.ok Q=>_)=_;rw[G]
   have hn:n≠0:=Fq G;refine⟨J,?_⟩;show if(!decide (V.int n=V.int 0))=true then _ else _;rw[decide_eq_false (λz=>hn (by injection z with z;lia))];refine ba ⟨ll,_,J,.inl (ao.of (I _ _ d.ae)),Ob,λtp r=>?_⟩;refine R i n ef _ tp ((c.trans I).trans (aa.ab r)) ?_;rw[aq,d.f7,E];rfl
  .obtain⟨g',l'⟩:=Ni a2 k;refine⟨J,?_⟩;refine⟨_,_,bg,Pf',J,Kb.same o c Ε,Ε _ _ q Y,dZ,g',Z,?_⟩;rw[b];show(match Ć Pf u with |.error n=>_ |.ok Q=>_)=_;rw[a2]
 .rintro f H' ⟨g,j,as,Pf,rfl,c,q,d,k,E,b⟩;rw[dI,List.drop_length]at b;have b:Ľ t=.ok Pf:=b;have L:=c _ _ h1;refine⟨CP,dx,_,L,T.cg,T.eQ,by show 1<1000;decide,?_⟩;rw[show c_ "lines" (.ref ll) (pf M)=pf ll from J];refine⟨Ob,λtp r=>?_⟩;have s:aa (ab H' pr (.aO CP dx (pf ll))) (ab (ab H' pr (.aO CP dx (pf ll))) tp (.be [.int 0,.int 0])):=aa.ab r;exact a1 Pf b k _ ll tp as o (s _ _ aq) ((d.obj L).same s) (((aa.kb c).trans Kb.ab).trans (aa.kb s)) aq
def acF{p:Nat->Bool}{v:Nat->V}{tt:TT}(hk:k<z.length)(hz:n<=1000000)(hD:H D=U)(ht:∀i,i<n->∀H' (Q:Bool->Hp->Prop),aa H H'->(∀aP,aa H' aP->Q (p i) aP)->tt ((bo z [k]).set k (O (.int (i:Nat)))) H' Q)(he:∀i,i<n->∀H' (Q:VK),aa H H'->(∀aP,aa H' aP->Q (v i) aP)->te ((bo z [k]).set k (O (.int (i:Nat)))) H' Q)(hq:∀H',aa H H'->H' D=O (.ae (((ø n).filter p).map v))->Qd H'):∃aav:Nat->Nat->Hp->Prop,(∃m,aav 0 m (ab H D (.ae [])))/\∀i m H',aav i m H'->((pH 0 n).stop i H'/\Qd H')\/((pH 0 n).go i H'/\∃Nx:Hp->Prop,(∀H',Nx H'->∃m',m'<m/\aav (i+1) m' H')/\∀x H2,(pH 0 n).fU i H' x H2->fu k x (bo z [k]) H2 λσ2 H2=>bo σ2 [k]=bo z [k]/\tt σ2 H2 λb H3=>
    if b=true then te σ2 H3 λy H4=>∃acc,H4 D=O (.ae acc)/\acc.length<É/\Nx (ab H4 D (.ae (acc++[y])))else Nx H3):=by
 refine Dh (λi H'=>aa H H'/\H' D=O (.ae<|((ø i).filter p).map v)) ⟨aa.ab hD,aq⟩ (λi H' hi e=>?_) λH' e=>hq H' e.1 e.2;obtain⟨sm,ha⟩:=e;have hx:(0+(i:Int))=(i:Nat):=Z;rw[hx];refine⟨?_,?_⟩
 .show((z.set k U).set k<|O _).set k U=z.set k U;rw[List.set_set,List.set_set]
 .refine ht i hi H' _ sm λH2 s2=>?_;have hl:((ø i).filter p).length<=i:=by
   let:=List.length_filter_le p<|ø i;rw[List.length_range]at this;exact this
  have es:(ø (i+1)).filter p=(ø i).filter p++(if p i=true then[i]else[]):=by
   rw[Ìg,List.filter_append]
   congr 1
   simp only[List.filter_cons,List.filter_nil]
  cases hb:p i with
  |true=>
   rw[hb,if_pos J]at es;refine he i hi H2 _ (sm.trans s2) λH3 s3=>?_;refine⟨_,s3 _ _<|s2 _ _ ha,by rw[List.length_map,sizeLine_eq];lia,Kb.same hD ((sm.trans s2).trans s3) Kb.ab,?_⟩;rw[aq,es,List.map_append];rfl
  |false=>
   rw[hb,if_neg gn,List.append_nil]at es;exact⟨sm.trans s2,es▸s2 _ _ ha⟩
def Tn(ag:List (aL×V))(L:List Nat):Prop:=Tb ag L/\∃ms:List Nat,ag.map (·.1)=ms.map (λ(n:Nat)=>(ü n:aL))/\ms.Nodup
def Nj{a:Nat}(h:(ü (a:Int):aL)=ü (b:Int)):a=b:=by injection h with h;lia
def Tn.mem{L b:List Nat}(h:Tb ag L)(e:ag.map (·.1)=b.map (λ(n:Nat)=>(ü (n:Int):aL)))(x:Nat):x∈b↔x∈L:=by
 let a:=h.2 x;constructor
 .intro m;cases q:bT ag (.inl x)with
  |none=>let:=J1 q;rw[e]at this;exact absurd (bZ.mpr ⟨x,m,J⟩) this
  |some v=>rw[q]at a;exact dR a.symm
 .intro m;rw[bP m]at a;cases q:bT ag (.inl x)with
  |none=>rw[q]at a;cases a
  |some v=>let:=Ug q;rw[e]at this;obtain⟨y,c,e⟩:=bZ.mp this;exact Nj e▸c
def Tn.g_{L:List Nat}(h:Tn ag L):Tn (de ag (.inl (m:Int)) v) (L++[m]):=by
 obtain⟨tb,b,e,nd⟩:=h;refine⟨tb.g_,?_⟩;cases q:bT ag (.inl (m:Int))with
 |none=>refine⟨b++[m],by rw[zt v q,bU,bU,e];rfl,zF nd λz=>?_⟩;let:=J1 q;rw[e]at this;exact this<|bZ.mpr ⟨m,z,J⟩
 |some u=>
  refine⟨b,?_,nd⟩;unfold de;rw[pR,q];show(ag.map λa=>if a.1=ü (m:Int)then(a.1,v)else a).map (·.1)=_;rw[cV,<-e];refine oM λa _=>?_;show(if a.1=_ then(a.1,v)else a).1=a.1;split<;>rfl
def Tn.c8:Tn [(.inl (n:Int),v)] [n]:=by let:=Tn.g_ (m:=n) (v:=v) ⟨Tb.nil,[],J,F4⟩;exact this
def acG{a:List Nat}{ns:List Int}(d:a.Nodup)(c:ns.Perm (a.map λ(n:Nat)=>(n:Int)))(f:ns.Pairwise (·<=·)):∃l:List Nat,ns=l.map (λ(n:Nat)=>(n:Int))/\l.Pairwise (· < ·)/\∀x,x∈l↔x∈a:=by
 have g:∀x∈ns,∃n:Nat,x=n:=λx b=>by obtain⟨n,_,e⟩:=bZ.mp<|c.mem_iff.mp b;exact⟨n,e.symm⟩
 have i:ns=(ns.map γ).map λ(n:Nat)=>(n:Int):=by
  rw[cV];conv=>lhs;rw[<-vk ns]
  refine oM λx b=>?_;obtain⟨n,rfl⟩:=g x b;simp
 have pl:(ns.map γ).Perm a:=by
  let:=c.map γ;rw[cV]at this;have e2:a.map (γ∘λ(n:Nat)=>(n:Int))=a:=by
   conv=>rhs;rw[<-vk a]
   exact oM λx _=>by simp
  rw[e2]at this;exact this
 refine⟨ns.map γ,i,?_,λx=>pl.mem_iff⟩;have nd:(ns.map γ).Nodup:=pl.nodup_iff.mpr d;have j:(ns.map γ).Pairwise (·<=·):=by rw[List.pairwise_map];exact f.imp λh=>by lia
 exact(Ób j nd).imp λh=>Nat.lt_of_le_of_ne h.1 h.2
inductive acH(CL CP:À)(vs:List V)(H:Hp)(Q:VK)(_:XK):Prop|m(pr dx ll as Pf:_)(_:vs=[.ref pr])(_:H pr=O (.aO CP dx<|pf ll))(_:bA CL H ll as Pf)(_:Pf.length<=1000)(_:∀H' D,aa H H'->H D=U->H' D=O (.ae<|nv<|Àf Pf)->Q (.ref D) H')
def acI:cX P w K mg base 2 CP "unused" ["self"] (acH CL CP):=dB ["self","used","number"] T.YI λH vs Q nd c h=>by
 obtain⟨pr,dx,ll,as,Pf,rfl,h1,a,e,k⟩:=h;refine⟨_,az (ys 1 nd<|yc (MX T) c<|y1<|yf<|pv 0)<|yr<|wE J nd (CO J T.Ax<|y1<|ye T.cS<|yf<|pv 0) (uj (own:=[("number",2)]) (by rfl)) (λ_ _ _ _ _=>(yx 2 nd)) (λ_ _ _ _ _=>(zq<|pw<|Jn (jp c) (pv 2)<|pv 1)) λ_ _ _ _ _=>(pv 2),?_⟩;refine⟨CP,dx,_,_,h1,T.cg,T.eQ,J,ll,as,Pf,J,a,e,λH1 z ag b l f tb=>?_⟩;refine⟨CP,dx,_,_,b _ _ h1,T.cg,T.eQ,J,ll,_,J,.inl<|ao.of<|b _ _ a.ae,_,J,Z,by rw[a.f7];lia,λD d=>?_⟩;rw[sj,a.f7];refine acF (p:=λi=>!Ħ Pf i) (v:=λi=>.int (i:Nat)) (by show 2<3;decide) Z d (λi hi H' g s' q=>?_) (λi hi H' g s' q=>?_) λH' s' j=>?_
 .refine⟨z,_,J,fE.k (k:=ü ((i:Nat):Int))<|s' _ _ f,?_⟩;rw[tb.2 i,<-MV];exact q H'<|aa.refl H'
 .exact(q H'<|aa.refl H')
 .exact k H' D (b.trans s') (b.free d) j
inductive acJ(CL CP:À)(vs:List V)(H:Hp)(Q:VK)(_:XK):Prop|m(pr dx ll as Pf n:_)(_:vs=[.ref pr,.int (n:Nat)])(_:H pr=O (.aO CP dx<|pf ll))(_:bA CL H ll as Pf)(_:Pf.length<=1000)(_:jK Pf)(_:n<Pf.length)(_:∀H' D,aa H H'->H D=U->H' D=O (.ae<|nv<|ë Pf n)->Q (.ref D) H')
theorem Fs(T:Tx P w K mg CR CL CP CF CT):cX P w K mg base 1 CP "under" ["self","number"] (acJ CL CP):=dB ["self","number","found","above","premise"] T.YJ λH vs Q nd G h=>by
 obtain⟨pr,dx,ll,as,Pf,n,rfl,h1,I,hz,Β,a0,k⟩:=h;refine⟨_,az (ys 2 nd (Js (Dq (pv 1) fK Jp) J J (λz=>nomatch z) gn)) (az (yo (Tl J T.Ax (y3 (pv 1) (pJ pK aG) (pJ pK aG))) (yx 3 nd) (bS (yw (pw (Jm (jp G) (pv 3) (pv 2))) (bS (yo (dm (yf (yl (yf (pv 0)) (pv 3)))) (yx 4 nd) (bS (wI (jp G) (pv 2) (pv 4) fK J))))))) (yr (eF (Kv) J T.LZ boot_sorted (y1 (pv 2))))),?_⟩;have R:=T.nL "premises" gn;intro D t;refine⟨aq,[(.inl ((n:Nat)),.bl true)],J,by show 1<=15;decide,?_⟩;have a2:aa H (ab (ab H D (.dK [])) D (.dK (pV [] [(.inl ((n:Nat)),.bl true)]))):=Kb.same t (aa.ab t) Kb.ab;generalize S:ab (ab H D (.dK [])) D (.dK (pV [] [(.inl ((n:Nat)),.bl true)]))=a1 at a2;have u:a1 D=O (.dK [(.inl ((n:Nat)),.bl true)]):=S▸aq;refine⟨_,J,_,J,_,_,_,(((n:Nat):Int) - -1).toNat,J,BY.neg Z Z Z Z,To (λi d H'=>c4 λag L v c=>d=[O (.ref pr),O (.int n),O (.ref D),v,c]/\aa H H'/\H' D=O (.dK ag)/\Tn ag L/\L.length<=1+2*i/\Ģ Pf (n+1) [n]=Ģ Pf (n+1-i) L)
  ⟨_,[n],U,U,J,a2,u,Tn.c8,Gc,J⟩ ?_ ?_⟩
 .rintro i d H' hi ⟨ag,L,v,c,rfl,e,f,A,aav,b⟩;have hi:i<=n:=Z;have ex:(((n:Nat))+(i:Int)* -1)=((n-i:Nat):Int):=Z;rw[ex];have X:n+1-i=(n-i)+1:=Z;rw[X,wY Pf (n-i) L]at b;refine⟨D,_,J,fE.k (k:=ü ((n-i:Nat):Int)) f,?_⟩;rw[A.1.2 (n-i)];by_cases hm:(n-i)∈L
  .rw[bP hm];have r:n-i<Pf.length:=Z;obtain⟨a,Y,a3⟩:=I.at_ (n-i) Pf[n-i] (by simp[r]);have er:(ľ Pf (n-i)).map Ë=O (Ë Pf[n-i].rule):=by unfold ľ;rw[bL r];rfl
   have B:jL Pf (n-i) L=L++Ë Pf[n-i].rule:=by unfold jL;rw[aj (uE.mpr hm),er];rfl
   rw[B]at b;obtain⟨bB,pl,ql,sl,fv,M,s,g3,g4,g5,m1,m2,m3⟩:=a3.same e;have tM:D≠pl:=aY f s nofun;generalize Pf[n-i]=l at b M s g3 g4 g5;refine⟨CP,dx,_,_,e _ _ h1,T.cg,T.eQ,J,_,.ref _,ao.of (e _ _ I.ae),cb (by rw[aR,Y];rfl),CL,bB,_,_,M,T.bb,R,J,pl,J,⟨_,ao.of s⟩,kh (xs:=nv (Ë l.rule)) (λj d g=>c2 λag c=>d=[O (.ref pr),O (.int n),O (.ref D),O (.int ((n-i:Nat))),c]/\aa H g/\g pl=O (.ae (nv (Ë l.rule)))/\g D=O (.dK ag)/\Tn ag (L++(Ë l.rule).take j))
    ⟨ag,c,J,e,s,f,by rw[F8,jW];exact A⟩ ?_ ?_ ?_⟩
   .rintro j d g _ ⟨ag,c,rfl,_,q,_⟩;exact ao.of q
   .rintro j y d g hy ⟨ag,c,rfl,C,q,E,o⟩;obtain⟨m,en,rfl⟩:=jw hy;refine⟨D,_,J,lp.k (k:=ü (m:Int)) E ?_,?_⟩
    .have:=o.1.1;have:=lO l.rule;simp only[bw,eh]at*;rw[bn];lia
    refine⟨_,_,J,Kb.same t C Kb.ab,au (cB tM)▸q,aq,?_⟩;rw[gC en,<-jc];exact o.g_
   .rintro d g ⟨ag,c,rfl,C,q,E,o⟩;rw[dA,l_]at o;refine⟨ag,_,_,_,J,C,E,o,?_,?_⟩
    .have:=lO l.rule;rw[bw];lia
    .rw[b,show n+1-(i+1)=n-i by lia]
  .rw[bO hm];have B:jL Pf (n-i) L=L:=by unfold jL;rw[ai (λz=>hm (uE.mp z))]
   rw[B]at b;exact⟨ag,L,_,_,J,e,f,A,Z,by rw[b,show n+1-(i+1)=n-i by lia]⟩
 .rintro d H' ⟨ag,L,v,c,rfl,e,f,⟨tb,ms,em,nd⟩,aav,b⟩;rw[show n+1-(((n:Nat):Int) - -1).toNat=0 by lia]at b;have b:Ģ Pf (n+1) [n]=L:=b;refine⟨D,ag,J,f,.inl ⟨ms.map λ(n:Nat)=>(n:Int),?_,λqI p hp hs N=>?_⟩⟩
  .have:ag.map (λq=>kV q.1)=(ag.map (·.1)).map kV:=by rw[cV];rfl
   rw[this,em,cV,cV];rfl
  .obtain⟨l,el,r,F⟩:=acG nd hp hs;have eU:ë Pf n=l:=Wj Β a0 r λx=>by rw[F x,Tn.mem tb em x,b]
   refine k _ p (e.trans (aa.ab N)) (e.free N) ?_;rw[aq,eU,el,cV];rfl
def acK:fL xs U (O (b:Int))=xs.take b:=by
 unfold fL;let h1:HT.bi xs.length 0 U=0:=J;let h2:HT.bi xs.length xs.length (O (b:Int))=min b xs.length:=mx _ _ _;rw[h1,h2,jb,xG];by_cases h:b<=xs.length
 .rw[BB h]
 .rw[Nat.min_eq_right Z,jZ<|aN _,jZ Z]
theorem Nk:∀(l:List Nat)(a:Nat),a<=l.foldl max a/\(∀y∈l,y<=l.foldl max a)/\(l.foldl max a=a\/l.foldl max a∈l)
|[]=>λa=>⟨aN _,λy h=>by simp at h,.inl J⟩
|x::r=>λa=>by
 obtain⟨h1,h2,b⟩:=Nk r<|max a x;refine⟨by show a<=r.foldl max (max a x);lia,λy c=>?_,?_⟩
 .show y<=r.foldl max (max a x);rcases a_.mp c with rfl|c
  .lia
  .exact h2 y c
 .show r.foldl max (max a x)=a\/r.foldl max (max a x)∈x::r;rcases b with b|b
  .rw[b];by_cases z:x<=a
   .exact .inl Z
   .exact .inr (by rw[show max a x=x by lia];simp)
  .exact .inr<|a_.mpr<|.inr b
def acL{m:Int}(h:(l.map (λ(n:Nat)=>(n:Int))=[]/\m=0)\/(m∈l.map (λ(n:Nat)=>(n:Int))/\∀y,y∈l.map (λ(n:Nat)=>(n:Int))->y<=m)):m=((l.foldl max 0:Nat):Int):=by
 obtain⟨h1,h2,a⟩:=Nk l 0;rcases h with⟨e,rfl⟩|⟨b,e2⟩
 .rw[List.map_eq_nil_iff.mp e];rfl
 .obtain⟨n,c,rfl⟩:=bZ.mp b;have:=h2 n c;rcases a with a|a
  .omega
  .have:=e2 _<|bZ.mpr ⟨_,a,J⟩;lia
def acM(r:Ù){u:Ä}(hk:adZ[k]?=O u):decide (S (bp r)=S u)=(ù r==k):=by
 let a:k<12:=(b9.mp hk).1;let h1:adZ[ù r]?=O (bp r):=by cases r<;>rfl
 let c:ù r<12:=(b9.mp h1).1;let b:∀j<12,∀k<12,decide (adZ[j]?=adZ[k]?)=(j==k):=OH;rw[<-b _ c _ a,h1,hk];exact iC.mpr ⟨λz=>by rw[gF z],λz=>by rw[cZ z]⟩
inductive acO(CL CP:À)(vs:List V)(H:Hp)(Q:VK)(_:XK):Prop|m(pr dx ll:À)(as:List À)(Pf:Ê)(n:Nat)(_:vs=[.ref pr,.int (n:Nat)])(_:H pr=O (.aO CP dx<|pf ll))(_:bA CL H ll as Pf)(_:Pf.length<=1000)(_:jK Pf)(_:n<Pf.length)(_:∀(H':Hp),aa H H'->Q (.int (ϻ Pf n:Nat)) H')
def acP(T:Tx P w K mg CR CL CP CF CT):cX P w K mg base 1 CP "height" ["self","number"] (acO CL CP):=dB ["self","number","heights","line","premise"] T.YK λH vs Q nd hr h=>by
 obtain⟨pr,dx,ll,as,Pf,n,rfl,h1,u,hz,Β,N,k⟩:=h;refine⟨_,az (ys 2 nd (bH cW)) (az (yo (dm (oh zh (yf (pv 0)) uf (km (cJ wk (pv 1) aG)))) (yx 3 nd) (bS (yA (pv 2) (cJ wk aG (UN T.LK (y1 (yv 4 nd (dm (yf (pv 3))) (λ_ _ _ _ _=>(yk K (pv 2) (pv 4)))))))))) (yr (yl (pv 2) (pv 1)))),?_⟩;have a0:=T.nL "premises" gn;refine⟨gn,λc C=>?_⟩;have A:aa H (ab H c (.ae [])):=aa.ab C;refine⟨CP,dx,_,_,A _ _ h1,T.cg,T.eQ,J,_,J,ll,_,J,ao.of (A _ _ u.ae),λsl B=>?_⟩;rw[show fL (as.map V.ref) U (O (((n:Nat):Int)+1))=(as.take (n+1)).map V.ref from by have:=acK (xs:=as.map V.ref) (b:=n+1);rw[BC];exact this];have R:aa H (ab (ab H c (.ae [])) sl (.ae ((as.take (n+1)).map V.ref))):=A.trans (aa.ab B);have E:sl≠c:=λz=>by rw[z,aq]at B;cases B
 refine⟨sl,J,⟨_,ao.of aq⟩,kh (K:=K) (a:=sl) (xs:=(as.take (n+1)).map V.ref) (λi p H'=>c2 λ(r s:Option V)=>p=[O (.ref pr),O (.int (n:Nat)),O (.ref c),r,s]/\aa H H'/\H' sl=O (.ae ((as.take (n+1)).map V.ref))/\H' c=O (.ae (nv ((Pf.take i).foldl gE []))))
  ⟨U,U,J,R,aq,by rw[au (cB E)];exact aq⟩ ?_ ?_ ?_⟩
 .rintro i p H' _ ⟨r,s,rfl,e,q,_⟩;exact ao.of q
 .rintro i y p H' f ⟨r,s,rfl,e,q,d⟩;rw[aR]at f;cases g:(as.take (n+1))[i]? with
  |none=>rw[g]at f;exact eG f
  |some a=>
   rw[g]at f;cases f;have hi:i<n+1:=by have:=(b9.mp g).1;rw[eh]at this;lia
   rw[List.getElem?_take,aj hi]at g;refine gg λP0 p0=>?_;obtain⟨l,F,S⟩:=u.qO g;obtain⟨a1,pl,ql,fT,fv,aav,G,g3,g4,g5,m1,m2,m3⟩:=S.same e;refine p0 ?_;have hlen:((Pf.take i).foldl gE []).length=i:=by rw[Al,eh];simp;lia
   generalize X:(Pf.take i).foldl gE []=L at d hlen;refine⟨.inl ⟨J,_,ao.of d⟩,CL,a1,_,_,aav,T.bb,a0,J,pl,J,⟨_,ao.of G⟩,λD Y=>lq (K:=K) (a:=pl) (xs:=nv (Ë l.rule)) (vals:=nv ((Ë l.rule).map λj=>L.getD j 0)) (by show 4<5;decide) (ao.of G) (by rw[dA,dA,aK]) (by rw[dA];have:=lO l.rule;lia) Y (λj x v a3 hv H2 Q2 o q2=>?_) (λH2 o hD=>?_)⟩
   .obtain⟨m,I,rfl⟩:=jw a3;obtain⟨m',a2,rfl⟩:=jw hv;rw[aR,I]at a2;cases a2;have M:=Β i l F m (bM I);refine⟨_,_,ao.of (o _ _ d),cb (j:=m) ?_,q2 H2 (aa.refl H2)⟩;refine Fh ?_;have t:m<L.length:=Z;show L[m]?=O (L.getD m 0);rw[jy,bL t];rfl
   .refine⟨D,((Ë l.rule).map λj=>L.getD j 0).map (λ(n:Nat)=>(n:Int)),J,ao.of (by rw[hD,cV];rfl),λm M=>?_⟩;rw[acL M];refine⟨c,_,_,J,J,o _ _ d,by rw[dA,bn];lia,?_⟩;refine⟨_,_,J,Kb.same C (e.trans o) Kb.ab,by rw[au E];exact o _ _ q,?_⟩;rw[aq,gC F,WL,X];unfold gE nv;rw[bU];simp
 .rintro p H' ⟨r,s,rfl,e,q,d⟩;have hlen:((as.take (n+1)).map V.ref).length=n+1:=by rw[aK,eh,u.len];lia
  rw[hlen]at d;refine⟨_,_,ao.of d,cb (j:=n) (Fh ?_),k H' e⟩;rw[WK Pf N];have t:n<((Pf.take (n+1)).foldl gE []).length:=by rw[Al,eh];simp;lia
  rw[bL t,jy,bL t];rfl
def A5(Pf:Ê)(n:Nat):List Nat:=(ø 12).map λk=>((ë Pf n).filter λj=>(ľ Pf j).any λr=>ù r==k).length
inductive acQ(CL CP:À)(vs:List V)(H:Hp)(Q:VK)(_:XK):Prop|m(pr dx ll:À)(as:List À)(Pf:Ê)(n:Nat)(_:vs=[.ref pr,.int (n:Nat)])(_:H pr=O (.aO CP dx<|pf ll))(_:bA CL H ll as Pf)(_:Pf.length<=1000)(_:jK Pf)(_:n<Pf.length)(_:∀(H':Hp)(D:À),aa H H'->H D=U->H' D=O (.ae<|nv<|A5 Pf n)->Q (.ref D) H')
def Ft:(ë Pf n).length<=Pf.length:=by let:=mU (Äa Pf n)<|ø Pf.length;rw[BE]at this;exact this
def acR:cX P w K mg base 2 CP "kind_counts" ["self","number"] (acQ CL CP):=by
 obtain⟨s,G,t⟩:=T.L0;refine dB ["self","number","kinds","below","kind"] T.YL λH vs Q nd I h=>?_;obtain⟨pr,dx,ll,as,Pf,n,rfl,h1,o,a2,Β,L,k⟩:=h;refine⟨_,az (ys 2 nd<|yv 3 nd (dm<|ym (pv 0) T.cg (Fs T) I<|y1<|pv 1) λ_ _ _ _ _=>(yg K<|yk K (yg K<|pv 0)<|pv 3))<|yr<|yv 4 nd (wg<|bj G) λ_ _ _ _ _=>(Vz (K:=K) J PySem.F.plainAttrs_list PySem.F.slot_list_count PySem.F.type_list_count (Vs (K:=K) J) (pv 2)<|y1<|pv 4),?_⟩;have M:=T.nL "kind" gn;have ul:=Ft (Pf:=Pf) (n:=n);refine⟨dx,_,h1,J,pr,dx,ll,as,Pf,n,J,h1,o,a2,Β,L,λH1 a1 d nU z=>?_⟩;refine⟨a1,J,⟨_,ao.of z⟩,λD N=>lq (K:=K) (a:=a1) (xs:=nv<|ë Pf n) (vals:=((ë Pf n).map λj=>S<|bp (fQ Pf j).rule).map V.str) (by show 3<5;decide) (ao.of z) (by rw[dA,List.length_map,List.length_map]) (by rw[dA];lia) N (λi x v p f H2 Q2 b a0=>?_) λH2 b A=>?_⟩
 .obtain⟨m,B,rfl⟩:=jw p;rw[List.getElem?_map,List.getElem?_map,B]at f;cases f;have R:m<Pf.length:=uF<|List.mem_of_getElem? B;obtain⟨a,aav,X⟩:=o.at_ m _<|qd R;obtain⟨Y,pl,ql,fT,fv,a3,g2,g3,g4,g5,m1,m2,m3⟩:=(X.same d).same b;exact⟨CP,dx,_,_,b _ _<|d _ _ h1,T.cg,T.eQ,J,_,.ref _,ao.of<|b _ _<|d _ _ o.ae,cb (j:=m) (by rw[List.getElem?_map,aav];rfl),CL,Y,_,_,a3,T.bb,M,J,a0 H2<|aa.refl H2⟩
 refine⟨s,J,⟨_,t H2⟩,λD2 C=>Kt (K:=K) (a:=s) (xs:=wV adZ) (vals:=nv<|A5 Pf n) (by show 4<5;decide) (t H2) J (by decide) C (λi x v p f g Q3 l E=>?_) λg l gd=>?_⟩
 .obtain⟨u,F,rfl⟩:=jP p;obtain⟨c,e,rfl⟩:=jw f;refine⟨.inl ⟨J,_,ao.of<|l _ _ A⟩,D,_,_,J,J,ao.of<|l _ _ A,?_⟩;have hi:i<12:=(List.getElem?_eq_some_iff.mp F).1;have:c=((ë Pf n).map λj=>S<|bp (fQ Pf j).rule).countP (λy=>decide (y=S u)):=by
   unfold A5 at e;rw[List.getElem?_map,List.getElem?_range hi]at e;have e:((ë Pf n).filter λj=>(ľ Pf j).any λr=>ù r==i).length=c:=Option.some.inj e;rw[<-e,List.countP_map,List.countP_eq_length_filter];congr 1;refine List.filter_congr λj q=>?_;have q:j<Pf.length:=uF q;show(ľ Pf j).any _=decide (S (bp (fQ Pf j).rule)=S u);rw[acM _ F];unfold ľ;rw[qd q];rfl
  rw[this]at E;exact E g<|aa.refl g
 .exact k g D2 ((d.trans b).trans l) ((d.trans b).free C) gd
def Fu{R:Nat->V->Hp->Prop}(hk:k<z.length)(B:ao K H a xs)(hz:xs.length<=1000000)(o:H D=U)(p:∀i v H' c,R i v H'->Kb D H' c->R i v c)(he:∀(i:Nat)(x:V),xs[i]?=O x->∀H' (Q:VK),aa H H'->(∃acc,H' D=O (.ae acc))->(∀c v,aa H' c->R i v c->Q v c)->te ((bo z [k]).set k (O x)) H' Q)(C:∀(H':Hp)(vals:List V),aa H H'->H' D=O (.ae vals)->vals.length=xs.length->(∀(i:Nat)(v:V),vals[i]?=O v->R i v H')->Qd H'):∃aav:Nat->Nat->Hp->Prop,(∃m,aav 0 m (ab H D (.ae [])))/\∀i m H',aav i m H'->((iG K a).stop i H'/\Qd H')\/((iG K a).go i H'/\∃g:Hp->Prop,(∀H',g H'->∃r,r<m/\aav (i+1) r H')/\∀x H2,(iG K a).fU i H' x H2->fu k x (bo z [k]) H2 λl H2=>bo l [k]=bo z [k]/\gA l H2 λb s=>
    if b=true then te l s λy t=>∃acc,t D=O (.ae acc)/\acc.length<É/\g (ab t D (.ae (acc++[y])))else g s):=by
 refine ui (K:=K) (a:=a) (xs:=xs) (λi H'=>aa H H'/\∃acc,H' D=O (.ae acc)/\acc.length=i/\∀j v,acc[j]?=O v->R j v H') ⟨aa.ab o,[],aq,J,λj v h=>by simp at h⟩ (λi H' _ e=>e.1.seq B) (λi x H' w e=>?_) λH' e=>?_
 .obtain⟨f,acc,A,E,F⟩:=e;have hi:i<xs.length:=(b9.mp w).1;refine⟨?_,?_⟩
  .show((z.set k U).set k<|O _).set k U=z.set k U;rw[xK,xK]
  .simp only[gA,fi];refine he i x w H' _ f ⟨acc,A⟩ λc v n G=>?_;refine⟨acc,n _ _ A,by rw[bn];lia,Kb.same o (f.trans n) Kb.ab,acc++[v],aq,by rw[bw,E];rfl,λj u d=>?_⟩;by_cases q:j<acc.length
   .rw[jX q]at d;exact p _ _ _ _ (F j u d)<|(aa.kb n).trans Kb.ab
   .rw[lY Z]at d;have I:j-acc.length=0:=by
     by_cases a1:j-acc.length=0
     .exact a1
     .rw[j0 (by simp;lia)]at d;exact eG d
    rw[I]at d;cases d;have:j=i:=Z;subst this;exact p _ _ _ _ G Kb.ab
 .obtain⟨f,acc,h1,h2,a0⟩:=e;exact C H' acc f h1 h2 a0
def A7(Pf:Ê)(Sq:È):List Nat:=(ø Pf.length).filter λi=>Î Pf i==Sq
def acS{l:ê}(h:Pf[i]?=O l):Î Pf i=l.sequent:=by unfold Î;rw[h];rfl
inductive acT(CL CP:À)(vs:List V)(H:Hp)(Q:VK)(_:XK):Prop|m(pr dx ll sq:À)(as:List À)(Pf:Ê)(Sq:È)(_:vs=[.ref pr,.ref sq])(_:H pr=O (.aO CP dx<|pf ll))(_:bA CL H ll as Pf)(_:SeqAt H sq Sq)(_:Pf.length<=1000)(_:∀(H':Hp)(D:À),aa H H'->H D=U->H' D=O (.ae<|nv<|A7 Pf Sq)->Q (.ref D) H')
def acU(T:Tx P w K mg CR CL CP CF CT):cX P w K mg base 1 CP "lines_with" ["self","sequent"] (acT CL CP):=dB ["self","sequent","number","line"] T.YM λH vs Q nd t h=>by
 obtain⟨pr,dx,ll,sq,as,Pf,Sq,rfl,h1,c,m,C,k⟩:=h;refine⟨_,yr (wE J nd (Dv J T.EN (y1 (yf (pv 0)))) (uj (own:=[("number",2),("line",3)]) (by rfl)) (λ_ _ _ _ _=>(Kf (K:=K) (n:=2) J J (pG (yx 2 nd) (pG (yx 3 nd) y6)))) (λ_ _ _ _ _=>(zq (yq (Vg (K:=K) J (zN t)) (yg K (pv 3)) (pv 1)))) (λ_ _ _ _ _=>(pv 2))),?_⟩;have u:=T.nL "sequent" gn;refine⟨CP,dx,_,_,h1,T.cg,T.eQ,J,ll,_,J,ao.of c.ae,λD f=>Kc (K:=K) (a:=ll) (xs:=as.map V.ref) (λi H'=>aa H H'/\H' D=O (.ae (nv ((ø i).filter λi=>Î Pf i==Sq))))
  ⟨aa.ab f,aq⟩ (λi H' _ e=>ao.of (e.1 _ _ c.ae)) (λi v H' o b e x=>?_) (λH' e=>?_)⟩
 .obtain⟨y,p⟩:=e;rw[List.getElem?_map]at b;cases g:as[i]? with
  |none=>rw[g]at b;exact eG b
  |some a=>
   rw[g]at b;cases b;refine gg λP0 p0=>?_;obtain⟨l,q,z⟩:=c.qO g;have hi:i<Pf.length:=(List.getElem?_eq_some_iff.mp q).1;have j:aa H' (ab H' o (.be [.int (i:Nat),.ref a])):=aa.ab x;have d:=y.trans j;obtain⟨A,pl,ql,sl,fv,B,E,F,G,r,m1,m2,m3⟩:=z.same d;refine p0 ?_;refine⟨o,_,J,aV.of aq,J,_,_,J,_,_,J,J,J,?_⟩;refine⟨CL,A,_,_,B,T.bb,u,J,_,_,r.dp,(m.same d).dp,AN _,AN _,?_⟩;have eq:ϙ (sD l.sequent) (sD Sq)=(Î Pf i==Sq):=by show Ω _ _=_;rw[E9 r.aE m.aE,acS q,Bool.eq_iff_iff];simp
   rw[eq];have es:(ø (i+1)).filter (λi=>Î Pf i==Sq)=(ø i).filter (λi=>Î Pf i==Sq)++(if(Î Pf i==Sq)=true then[i]else[]):=by rw[Ìg,List.filter_append];congr 1;simp only[List.filter_cons,List.filter_nil]
   have hlen:((ø i).filter λi=>Î Pf i==Sq).length<=i:=by have:=List.length_filter_le (λi=>Î Pf i==Sq) (ø i);rw[List.length_range]at this;exact this
   cases s:(Î Pf i==Sq)with
   |true=>rw[s,if_pos J]at es;refine⟨_,j _ _ p,by rw[dA,sizeLine_eq];lia,Kb.same f d Kb.ab,?_⟩;rw[aq,es];unfold nv;rw[List.map_append];rfl
   |false=>rw[s,if_neg gn,List.append_nil]at es;refine⟨d,?_⟩;rw[es];exact j _ _ p
 .rw[c.f7]at e;exact k H' D e.1 f e.2
def Nl(f:Nat->Nat)(r:Ù):Ë (ð f r)=(Ë r).map f:=by cases r<;>rfl
def Nn(f:Nat->Nat)(r:Ù):bR (ð f r)=bR r:=by cases r<;>rfl
def No(f:Nat->Nat)(r:Ù):ad0 (ð f r)=ad0 r:=by cases r<;>rfl
def Np(f:Nat->Nat)(r:Ù):bp (ð f r)=bp r:=by cases r<;>rfl
inductive acV(CL CP:À)(vs:List V)(H:Hp)(Q:VK)(_:XK):Prop|m(pr dx ll:À)(as:List À)(Pf:Ê)(n:Nat)(_:vs=[.ref pr,.int (n:Nat)])(_:H pr=O (.aO CP dx<|pf ll))(_:bA CL H ll as Pf)(_:Pf.length<=1000)(_:jK Pf)(_:n<Pf.length)(_:∀(H':Hp)(D:À)(bg:List À),aa H H'->H D=U->bA CL H' D bg (Ŋ Pf n)->Q (.ref D) H')
def acW{g:TG}{tb:TS}{D:iS}(b:Nat->L2.St->Hp->Prop)(j:b 0 z H)(k:∀i z H,i<=xs.length->b i z H->ao K H a xs)(l:∀i x T z H,xs[i]?=O x->b i z H->H T=U->g (.ref T) z (ab H T (.be [.int (i:Nat),x])) λc H2=>tb {D with nx:=b (i+1),ct:=b (i+1),bk:=D.nx} c H2) (Β:∀z H,b xs.length z H->D.nx z H):∃aav:Nat->Nat->L2.St->Hp->Prop,(∃m,aav 0 m z H)/\∀i m z H,aav i m z H->((qG K a).stop i H/\D.nx z H)\/((qG K a).go i H/\∃N:L2.St->Hp->Prop,(∀d H',N d H'->∃f,f<m/\aav (i+1) f d H')/\∀x H',(qG K a).fU i H x H'->g x z H' λc H2=>tb {D with nx:=N,ct:=N,bk:=D.nx} c H2):=by
 refine⟨λi m z H=>m=xs.length-i/\i<=xs.length/\b i z H,⟨xs.length,Gc,cM _,j⟩,?_⟩;rintro i m z H ⟨rfl,hi,p⟩;have q:=k i z H hi p;by_cases h:i<xs.length
 .refine .inr ⟨⟨xs,xs[i],q,by simp[h]⟩,b (i+1),λd H' n=>⟨xs.length-(i+1),Z,J,h,n⟩,λx H' y=>?_⟩;obtain⟨T,F,rfl,o,rfl,r⟩:=y;exact l i F T z H (r xs q) p o
 .have e:i=xs.length:=Z;subst e;exact .inl ⟨⟨xs,q,aN _⟩,Β z H p⟩
def Nq(T:Tx P w K mg CR CL CP CF CT):cX P w K mg base 4 CP "part" ["self","number"] (acV CL CP):=dB ["self","number","kept","numbers","place","old"] T.YN λH vs Q nd a0 h=>by
 obtain⟨pr,dx,ll,as,Pf,n,rfl,h1,hP,hz,Β,hn,k⟩:=h;refine⟨_,az (ys 2 nd (ym (pv 0) T.cg (Fs T) a0 (y1 (pv 1)))) (az (ys 3 nd zx) (az (yo (Dv J T.EN (y1 (pv 2))) (CN J (pG (yx 4 nd) (pG (yx 5 nd) y6))) (bS (wI (jp a0) (pv 3) (pv 5) (pv 4) J))) (yr (yv 5 nd (dm (pv 2)) (λ_ _ _ _ _=>(yc (Nd T) a0 (y2 (yk K (yg K (pv 0)) (pv 5)) (pv 3)))))))),?_⟩;have ul:=Ft (Pf:=Pf) (n:=n);have us:=Ls Pf n;have f:∀x∈ë Pf n,x<Pf.length:=λx b=>uF b;have P4:∀j∈ë Pf n,∀x∈Ë (fQ Pf j).rule,x∈ë Pf n:=λj c x b=>Ev Β hn c (by rw[Ey (f j c)];exact b);have pm:=Ak Pf n;refine⟨dx,_,h1,J,pr,dx,ll,as,Pf,n,J,h1,hP,hz,Β,hn,λH1 a1 s1 nU s=>?_⟩;generalize ë Pf n=u at ul us f P4 pm s;intro t tO;have s2:aa H1 (ab H1 t (.dK [])):=aa.ab tO;refine⟨a1,_,J,ao.of (s2 _ _ s),acW (K:=K) (a:=a1) (xs:=nv u) (λi A H'=>c3 λ(ag:List (aL×V))(B C:Option V)=>A=[O (.ref pr),O (.int (n:Nat)),O (.ref a1),O (.ref t),B,C]/\aa H1 H'/\H' t=O (.dK ag)/\ag.length<=i/\∀j x,j<i->u[j]?=O x->bT ag (.inl (x:Int))=O (.int (j:Nat)))
  ⟨[],U,U,J,s2,aq,aN _,λj x c _=>absurd c (Nat.not_lt_zero _)⟩ ?_ ?_ ?_⟩
 .rintro i A H' _ ⟨ag,B,C,rfl,g,_⟩;exact ao.of (g _ _ s)
 .rintro i y T' A H' hy ⟨ag,B,C,rfl,g,aav,hlen,E⟩ hT;obtain⟨m,X,rfl⟩:=jw hy;have hi:i<u.length:=(b9.mp X).1;have sT:aa H' (ab H' T' (.be [.int (i:Nat),.int (m:Nat)])):=aa.ab hT;refine⟨T',_,J,aV.of aq,J,_,_,J,_,_,J,J,?_⟩;refine⟨t,_,J,lp.k (k:=ü (m:Int)) (sT _ _ aav) (by rw[bn];lia),?_⟩;refine⟨_,_,_,J,Kb.same tO (g.trans sT) Kb.ab,aq,?_,λj x c b=>?_⟩
  .have:=pS ag (ü (m:Int)) (V.int (i:Nat));lia
  .rw[wH];by_cases e:j=i
   .subst e;rw[X]at b;cases b;rw[aj J]
   .have aW:x<m:=(Lu us b X).mp Z;rw[ai (λz=>by have:=Nj z;lia)];exact E j x Z b
 .rintro A H2 ⟨ag,B,C,rfl,g,aav,hlen,E⟩;have F:=s1.trans g;have dZ:=hP.same F;rw[dA]at E;have Κ:∀j∈u,∀x∈Ë (fQ Pf j).rule,bT ag (.inl (x:Int))=O (.int (ma u x:Nat)):=λj c x b=>by have b:=P4 j c x b;have e:=Ew b;exact E _ x (b9.mp e).1 e
  refine⟨a1,J,⟨_,ao.of (g _ _ s)⟩,λD G=>Fu (K:=K) (a:=a1) (xs:=nv u) (R:=λi v H'=>c1 λ(j p d pl ql sl:À)(fv:V)=>u[i]?=O j/\v=.ref p/\p≠D/\pl≠D/\H' p=O (.aO CL d (lf (S (bp (fQ Pf j).rule)) pl ql fv sl))/\H' pl=O (.ae (nv ((Ë (fQ Pf j).rule).map (ma u))))/\H2 ql=O (.ae (nv (bR (fQ Pf j).rule)))/\FV H2 fv (ad0 (fQ Pf j).rule)/\SeqAt H2 sl (fQ Pf j).sequent) (by show 5<6;decide) (ao.of (g _ _ s)) (by rw[dA];lia) G
   (by rintro i v H' aP ⟨j,p,d,pl,ql,sl,fv,I,Y,a3,a2,r5,r6,r⟩ kb;exact ⟨j,p,d,pl,ql,sl,fv,I,Y,a3,a2,kb _ _ r5 a3,kb _ _ r6 a2,r⟩) (λi x b H' Q' s' L q=>?_) (λH3 vals M hD jj hR=>?_)⟩
  .obtain⟨j,o,rfl⟩:=jw b;have c:=bM o;obtain⟨a,ea,hl⟩:=dZ.at_ j _ (qd (f j c));obtain⟨d,pl,ql,sl,fv,g1,g2,g3,g4,g5,m1,m2,m3⟩:=hl;obtain⟨acc,L⟩:=L;refine⟨CP,dx,_,_,s' _ _ (F _ _ h1),T.cg,T.eQ,J,_,_,ao.of (s' _ _ dZ.ae),cb (j:=j) (by rw[aR,ea];rfl),a,t,d,pl,ql,sl,_,fv,_,ma u,J,s' _ _ g1,s' _ _ g2,lO _,.inl ⟨ag,s' _ _ aav,Κ j c⟩,λaP p acX mh oW np cY e1 e2=>?_⟩;exact q aP _ oW ⟨j,p,acX,mh,ql,sl,fv,o,J,λz=>(by rw[z,L]at np;cases np),λz=>(by rw[z,L]at cY;cases cY),e1,e2,g3,g4,g5⟩
  .obtain⟨N,rfl⟩:=uY (vals:=vals) λi v h=>let⟨_,p,_,_,_,_,_,_,e,_⟩:=hR i v h;⟨p,e⟩;rw[aK,dA]at jj;refine k H3 D N (F.trans M) ((F).free G) ⟨hD,by rw[pm,aK];exact jj,λi l e=>?_⟩;rw[pm,aR]at e;cases o:u[i]? with
   |none=>rw[o]at e;exact eG e
   |some j=>
    rw[o]at e;cases e;have hi:i<N.length:=by rw[jj];exact(b9.mp o).1
    obtain⟨j',p,d,pl,ql,sl,fv,I,Y,a3,a2,r5,r6,r7,r8,r9⟩:=hR i (V.ref N[i]) (by rw[aR,bL hi];rfl);rw[o]at I;cases I;cases Y;refine⟨N[i],bL hi,d,pl,ql,sl,fv,?_,?_,?_,?_,?_,a2,bv r7 G,λz=>?_⟩
    .show _=O (HO.aO CL d (lf (S (bp (ð (ma u) (fQ Pf j).rule))) pl ql fv sl));rw[Np];exact r5
    .show _=O (HO.ae (nv (Ë (ð (ma u) (fQ Pf j).rule))));rw[Nl];exact r6
    .show _=O (HO.ae (nv (bR (ð (ma u) (fQ Pf j).rule))));rw[Nn];exact M _ _ r7
    .show FV H3 fv (ad0 (ð (ma u) (fQ Pf j).rule));rw[No];exact r8.aT (aa.aT M)
    .exact r9.same M
    .obtain⟨ys,e,_⟩:=r9;rw[z,G]at e;exact eG e
inductive acY(CL CP:À)(vs:List V)(H:Hp)(Q:VK)(_:XK):Prop|m(pr dx ll:À)(as:List À)(Pf:Ê)(n:Nat)(_:vs=[.ref pr,.int (n:Nat)])(_:H pr=O (.aO CP dx<|pf ll))(_:bA CL H ll as Pf)(_:Pf.length<=1000)(_:jK Pf)(_:n<Pf.length)(_:∀(H':Hp)(D:À)(bg:List À),Kb pr H H'->H D=U->H' pr=O (.aO CP dx<|pf D)->bA CL H' D bg (Ŋ Pf n)->Q .aQ H')
def acZ:cX P w K mg base 5 CP "keep" ["self","number"] (acY CL CP):=dB ["self","number"] T.YO λH vs Q nd c h=>by obtain⟨pr,dx,ll,as,Pf,n,rfl,h1,d,e,Β,f,k⟩:=h;refine⟨_,bS<|yu (pv 0)<|ym (pv 0) T.cg (Nq T) c<|y1<|pv 1,?_⟩;refine⟨dx,_,h1,J,pr,dx,ll,as,Pf,n,J,h1,d,e,Β,f,λH1 D g a i j=>?_⟩;let b:=a _ _ h1;refine⟨CP,dx,_,b,T.cg,T.eQ,by show 1<1000;decide,?_⟩;rw[show c_ "lines" (.ref D) (pf ll)=pf D from J];exact k _ D g ((aa.kb a).trans Kb.ab) i aq<|j.obj b
open PySem.Builtin.Str
theorem Nr:∀Sq:È,mL [44,32] (Sq.map ã)=Ś Sq
|[]|[A]=>rfl
|A::B::r=>by show ã A++[44,32]++mL [44,32] ((B::r).map ã)=ã A++44::32::Ś (B::r);rw[Nr (B::r),jc];rfl
def Nt(h:k<t.length):(S t).cps.getD k 0=t[k].toNat:=by show((t.map å).toArray).getD k 0=_;simp[Array.getD,h]
def Nu(b:UInt8):(S [32]).cps.contains b.toNat=(b==32):=by
 show(#[(32:Nat)]).contains b.toNat=_;by_cases e:b=32
 .subst e;simp
 .rw[show(b==32)=false from gk.mpr e];let:¬b.toNat=32:=λz=>e (oQ.mp z);simp[this]
def ac0(t:Ä):(decide (V.str (ϵ (S t) (S [32]))=V.str (S [])))=t.all λb=>b==32:=by
 obtain⟨f,l2,a⟩:=lo_facts (S [32]).cps.contains<|S t;obtain⟨h1,h2,g,i⟩:=hi_facts (S [32]).cps.contains (S t) _ f;have e:ϵ (S t) (S [32])=strSub (S t) (stripLo (S [32]).cps.contains true<|S t) (stripHi (S [32]).cps.contains true (S t)<|stripLo (S [32]).cps.contains true (S t)):=stripBy_eq _ _ _ _;rw[e];generalize stripLo (S [32]).cps.contains true (S t)=lo at*;generalize stripHi (S [32]).cps.contains true (S t) lo=hi at*;rw[bK]at f a h2 g;have c:strSub (S t) lo hi=S []↔hi=lo:=by
  constructor
  .intro z;have z:(strSub (S t) lo hi).length=0:=by rw[z];rfl
   have z:((S t).cps.extract lo hi).size=0:=z;rw[Array.size_extract]at z;have:(S t).cps.size=t.length:=bK t;lia
  .intro z;show(⟨(S t).cps.extract lo hi⟩:Ã)=⟨#[]⟩;congr 1;rw[z];simp only[Array.extract_eq_empty_iff];exact Nat.min_le_left _ _
 cases d:t.all λb=>b==32 with
 |true=>
  refine decide_eq_true<|congrArg V.str<|c.mpr ?_;rcases a with a|a
  .lia
  .by_cases z:lo<t.length
   .rw[Nt z,Nu]at a;have:=List.all_eq_true.mp d t[lo]<|List.getElem_mem z;rw[a]at this;cases this
   .lia
 |false=>
  refine decide_eq_false λz=>?_;have j:lo=t.length:=by
   by_cases q:lo<t.length
   .rcases a with a|a
    .omega
    .have:=g lo Z q;rw[this]at a;cases a
   .lia
  have:(t.all λb=>b==32)=true:=List.all_eq_true.mpr λb h=>by obtain⟨k,hk,rfl⟩:=List.getElem_of_mem h;have:=l2 k Z;rw[Nt hk,Nu]at this;exact this
  rw[this]at d;cases d
inductive ac1(vs:List V)(H:Hp)(Q:VK)(_:XK):Prop|m(sl:À)(Sq:È)(_:vs=[.ref sl])(_:SeqAt H sl Sq)(_:Sq.length<=100)(_:(∀A∈Sq,Å A<=2000))(_:∀H':Hp,aa H H'->Q (.str<|S<|Ś Sq) H')
def ac2:Ok P w K mg base 3 "sequent_form" ["sequent"] ac1:=bh ["sequent","formula"] T.YQ λH vs Q nd j h=>by
 obtain⟨sl,Sq,rfl,⟨xs,e,r,rfl⟩,m,f,k⟩:=h;rw[aK]at m;refine⟨_,yr<|zE cz<|yv 1 nd (dm<|pv 0) λ_ _ _ _ _=>(yc (L6 T) j<|y1<|pv 1),?_⟩;refine⟨⟨_,J⟩,sl,J,⟨_,ao.of e⟩,λD n=>lq (K:=K) (a:=sl) (xs:=xs.map λx=>V.ref x.1) (vals:=(((xs.map (·.2)).map ã).map S).map V.str) (by show 1<2;decide) (ao.of e) Gc (by rw[aK];lia) n (λi x v c d H' t s' q=>?_) λH' s' o=>?_⟩
 .rw[aR]at c;rw[aR,aR,aR,aR]at d;cases ex:xs[i]? with
  |none=>rw[ex]at c;exact eG c
  |some y=>
   rw[ex]at c d;cases c;cases d;have ry:=r y<|bM ex;refine⟨y.2,y.1,J,ry.same s',?_,q⟩;have:=f y.2<|bZ.mpr ⟨y,bM ex,J⟩;lia
 .refine⟨S [44,32],D,((xs.map (·.2)).map ã).map S,J,J,.inl<|ao.of o,?_,?_⟩
  .have b:=Fi (l:=(((xs.map (·.2)).map ã).map S).map (·.length)) (b:=32000) (by
    intro x c;rw[cV]at c;obtain⟨u,p,rfl⟩:=bZ.mp c;show(S u).length<=32000;rw[bK];obtain⟨A,s,rfl⟩:=bZ.mp p;obtain⟨y,g,rfl⟩:=bZ.mp s;have h1:=xj (r y g).2;have h2:=f y.2<|bZ.mpr ⟨y,g,J⟩;lia)
   rw[bK];simp only[aK,aJ,f9]at b⊢;lia
  .rw[AQ,Nr];exact k _ s'
def Sm(Sq:È):Prop:=Sq.length<=100/\∀A∈Sq,aE A=true/\Å A<=1000
def Av(H:Hp)(as:List À)(n:À):Prop:=∀a∈as,∀C dx kd pl ql fv sl,H a=O (.aO C dx<|lf kd pl ql fv sl)->pl≠n/\ql≠n/\sl≠n
def k9(H:Hp)(as:List À)(H':Hp)(bg:List À):Prop:=∀n,H n≠U->H' n≠U/\(Av H as n->Av H' bg n)
def k9.trans{c d:List À}(a:k9 H as H1 c)(b:k9 H1 c H2 d):k9 H as H2 d:=λn h=>⟨(b n (a n h).1).1,λv=>(b n (a n h).1).2<|(a n h).2 v⟩
def Nv{e:Ã}{b c d:À}{f:V}(h:lf kd pl ql fv sl=lf e b c f d):pl=b/\ql=c/\sl=d:=by
 unfold lf at h;injection h with _ h
 injection h with h1 h
 injection h with h2 h
 injection h with _ h
 injection h with a _
 refine⟨?_,?_,?_⟩
 .injection h1 with _ h1;injection h1
 .injection h2 with _ h2;injection h2
 .injection a with _ a;injection a
def bA.mem(h:bA CL H ll as Pf)(b:a∈as):∃l,l∈Pf/\gT CL H ll a l:=by obtain⟨i,hi,rfl⟩:=mZ b;obtain⟨l,e,q⟩:=h.qO (i:=i) (a:=as[i])<|bL hi;exact⟨l,bM e,q⟩
def Av.keep{n:À}(h:bA CL H ll as Pf)(k:Kb ll H H')(v:Av H as n):Av H' as n:=λa b C dx kd pl ql fv sl e=>by
 obtain⟨l,_,d,f,g,i,j,h1,_⟩:=h.mem b;have h2:=k _ _ h1<|aY h1 h.ae nofun;rw[h2]at e;injection e with e
 injection e with m e2 c
 obtain⟨rfl,rfl,rfl⟩:=Nv c;exact v a b _ _ _ _ _ _ _ h1
def k9.same(h:bA CL H ll as Pf)(s:aa H H'):k9 H as H' as:=λn a=>⟨λz=>a<|s.free z,λv=>v.keep h<|aa.kb s⟩
def Av.snoc{n:À}(v:Av H as n)(h:H ln=O (.aO C dx (lf kd pl ql fv sl)))(h1:pl≠n)(h2:ql≠n)(c:sl≠n):Av H (as++[ln]) n:=λa b f g i j k l m e=>by
 rcases d6.mp b with b|b
 .exact v a b _ _ _ _ _ _ _ e
 .have:a=ln:=by simpa using b
  subst this;rw[h]at e;injection e with e
  injection e with o e2 d
  obtain⟨rfl,rfl,rfl⟩:=Nv d;exact⟨h1,h2,c⟩
def bA.other{n:À}(h:bA CL H ll as Pf)(b:H n=O (.ae xs))(v:Av H as n)(ne:ll≠n):bA CL (ab H n o) ll as Pf:=by
 refine⟨by rw[au ne];exact h.ae,h.len,λi l e=>?_⟩;obtain⟨a,f,g,pl,ql,sl,fv,h1,h2,j,k,⟨ys,p,c,q⟩,m⟩:=h.at_ i l e;obtain⟨r,s,t⟩:=v a (bM f) _ _ _ _ _ _ _ h1;refine⟨a,f,g,pl,ql,sl,fv,?_,?_,?_,k.kb (ll:=n) Kb.ab b,⟨ys,?_,λx d=>⟨?_,(c x d).2⟩,q⟩,m⟩
 .rw[au<|aY h1 b nofun];exact h1
 .rw[au r];exact h2
 .rw[au s];exact j
 .rw[au t];exact p
 .rw[au<|aY (c x d).1 b nofun];exact(c x d).1
inductive Nw(CL:À)(vs:List V)(H:Hp)(Q:VK)(_:XK):Prop|m(ll pl ql:À)(as:List À)(Pf:Ê)(r:Ù)(fv:V)(Sq:È)(_:vs=[.ref ll,.str<|S<|bp r,.ref pl,.ref ql,fv])(_:bA CL H ll as Pf)(_:Pf.length<=1000)(_:H pl=O (.ae<|nv<|Ë r))(_:H ql=O (.ae<|nv<|bR r))(_:FV H fv (ad0 r))(_:(∀A,ad0 r=O A->aE A=true/\Å A<=1000))(_:pl≠ll)(_:ql≠ll)(_:(∀j∈Ë r,j<Pf.length/\Sm (Î Pf j)))(_:Þ (Î Pf) r=.ok Sq)(_:∀(H':Hp)(bg:List À),Kb ll H H'->bA CL H' ll bg (Ö Pf r)->(∀n,H n≠U->n≠pl->n≠ql->H' n≠U/\(Av H as n->Av H' bg n))->Q (.int (Pf.length:Nat)) H')
def oC:Ok P w K mg base 7 "put" ["lines","kind","premises","places","formula"] (Nw CL):=bh ["lines","kind","premises","places","formula","line","premise"] T.Y5 λH vs Q nd F h=>by
 obtain⟨ll,pl,ql,as,Pf,r,fv,Sq,rfl,p,hz,A,G,I,G_,cY,dL,a2,L,k⟩:=h;refine⟨_,az (ys 5 nd<|vD (AS T) (F.dE gn) J<|bx (pv 1)<|bx (pv 2)<|bx (pv 3)<|bx (pv 4)<|bx (bH cW) cW)<|az (yu (pv 5)<|yc (MB T) F<|y2 (pv 5)<|yv 6 nd (dm<|pv 2) λ_ _ _ _ _=>(yg K<|yk K (pv 0)<|pv 6))<|az (yA (pv 0)<|pv 5)<|yr<|cJ za (ye T.cS<|pv 0) aG,?_⟩;have M:=T.nL "sequent" gn;obtain⟨bE,_,B⟩:=Ah L;rw[Ag L,B]at k;let xx:=p.ae;refine⟨gn,λsl iO=>λln dx nx jk ne=>⟨ln,dx,pl,ql,sl,S<|bp r,fv,J,aq,λH2 N Ε=>⟨J,?_⟩⟩⟩;let a0:aa H (ab H sl (.ae [])):=aa.ab iO;let s2:aa (ab H sl (.ae [])) H2:=λb o e=>Ε b o (by rw[au<|bv e nx,au<|bv e jk];exact e)<|bv e nx;let g:=a0.trans s2;let a1:=p.same g;refine⟨pl,J,⟨_,ao.of<|g _ _ A⟩,λss G5=>DO (K:=K) (a:=pl) (xs:=nv (Ë r)) (R:=λi v _=>c2 λn sq=>(Ë r)[i]?=O n/\v=.ref sq/\SeqAt H2 sq (Î Pf n)) (by show 6<7;decide) (ao.of<|g _ _ A) (by rw[dA];let:=lO r;lia) G5 (λ_ _ _ _ h _=>h) (λi x hx H' Q' s' q=>?_) λH3 vals l G6 C aav=>?_⟩
 .obtain⟨n,c,rfl⟩:=jw hx;let f:=(a2 n<|bM c).1;obtain⟨a,ea,vQ⟩:=a1.at_ n Pf[n] (by simp[f]);let Fo:Î Pf n=Pf[n].sequent:=by unfold Î;rw[bL f];rfl
  obtain⟨bB,mh,vS,fT,nI,Γ,Ε,k3,k4,k5,_⟩:=vQ;refine⟨_,.ref _,ao.of<|s' _ _ a1.ae,cb (j:=n) (by rw[aR,ea];rfl),CL,bB,_,_,s' _ _ Γ,T.bb,M,J,q H' _ (aa.refl H') ⟨n,fT,c,J,by rw[Fo];exact k5⟩⟩
 let s:=g.trans l;obtain⟨t,rfl⟩:=uY (vals:=vals) λi v h=>let⟨_,sq,_,e,_⟩:=aav i v h;⟨sq,e⟩;rw[aK,dA]at C;let hI:iN K CL H3 ln ss (bR r) (ad0 r) ((Ë r).map (Î Pf)):=by
  refine⟨⟨dx,_,pl,ql,sl,fv,l _ _ N,l _ _<|g _ _ G,I.aT<|aa.aT s⟩,⟨t,ao.of G6,by rw[aK];exact C,λi Sq e=>?_⟩,λSq G7=>?_,G_⟩
  .rw[aR]at e;cases c:(Ë r)[i]? with
   |none=>rw[c]at e;exact eG e
   |some n=>
    rw[c]at e;cases e;have hi:i<t.length:=by rw[C];exact(b9.mp c).1
    obtain⟨n',sq,X,e2,e3⟩:=aav i (V.ref t[i]) (by rw[aR,bL hi];rfl);rw[c]at X;cases X;cases e2;exact⟨t[i],bL hi,e3.same l⟩
  .obtain⟨n,f,rfl⟩:=bZ.mp G7;exact(a2 n f).2
 have Y:=l _ _ N;refine⟨ln,ss,r,Î Pf,J,⟨hI,⟨dx,pl,ql,sl,fv,Y⟩,bE⟩,λu D a3 y hD=>?_⟩;let uZ:=a3 _ _ Y;refine⟨CL,dx,_,uZ,T.bb,M,by show 5<1000;decide,?_⟩;rw[show c_ "sequent" (.ref D) (lf (S<|bp r) pl ql fv sl)=lf (S<|bp r) pl ql fv D from J];have G8:=s.trans a3;have vR:H ln=none:=a0.free (by cases e:(ab H sl<|.ae []) ln with
  |none=>rfl
  |some o=>rw[e]at nx;cases nx)
 have d:aa H (ab u ln<|.aO CL dx<|lf (S<|bp r) pl ql fv D):=λb o e=>by rw[au<|bv e vR];exact G8 _ _ e
 have qP:SeqAt (ab u ln<|.aO CL dx<|lf (S<|bp r) pl ql fv D) D (aeM (Î Pf) r):=hD.aO uZ;let m:=p.same d;refine⟨.inl ⟨J,_,ao.of m.ae⟩,ll,_,_,J,J,m.ae,by rw[m.f7,bn];lia,?_⟩;let k7:gT CL (ab u ln<|.aO CL dx<|lf (S<|bp r) pl ql fv D) ll ln ⟨r,aeM (Î Pf) r⟩:=by refine⟨dx,pl,ql,D,fv,aq,d _ _ A,d _ _ G,I.aT<|aa.aT d,qP,cY,dL,λz=>?_⟩;rw[z,s _ _ xx]at y;cases y
 let E:=m.snoc k7;refine⟨ll,_,J,.inl<|ao.of E.ae,?_⟩;rw[E.f7,bw];let:=k _ _ ((aa.kb d).trans Kb.ab) E λn f h1 h2=>by
  obtain⟨o,ho⟩:∃o,H n=O o:=by
   cases e:H n with
   |none=>exact absurd e f
   |some o=>exact⟨o,J⟩
  refine⟨?_,λv=>?_⟩
  .by_cases z:n=ll
   .rw[z,aq];simp
   .rw[au z,d _ _ ho];simp
  .refine Av.snoc (v.keep p<|(aa.kb d).trans Kb.ab) (by rw[au (aY (H:=ab u ln<|.aO CL dx<|lf (S<|bp r) pl ql fv D) (a:=ln) (o:=.aO CL dx<|lf (S<|bp r) pl ql fv D) aq m.ae nofun)];exact aq) (cB h1) (cB h2) λz=>?_;rw[z,s _ _ ho]at y;cases y
 show Q (.int<|(((Pf.length+[(⟨r,aeM (Î Pf) r⟩:ê)].length:Nat)):Int)-1) _;rw[show((((Pf.length+[(⟨r,aeM (Î Pf) r⟩:ê)].length:Nat)):Int)-1)=((Pf.length:Nat):Int) by simp];exact this
def bF.kb(h:bF H A a)(k:Kb ll H H')(b:H ll=O (.ae xs)):bF H' A a:=⟨k _ _ h.1<|aY h.1 b nofun,h.2⟩
def gw(A:Â):Prop:=aE A=true/\Å A<=1000
def Sm.two(a:gw A)(b:gw B):Sm [A,B]:=⟨Gc,λX c=>by
 rcases a_.mp c with rfl|c
 .exact a
 .rcases a_.mp c with rfl|c
  .exact b
  .simp at c⟩
def Sm.xb{C:Â}(a:gw A)(b:gw B)(c:gw C):Sm [A,B,C]:=⟨Gc,λX d=>by
 rcases a_.mp d with rfl|d
 .exact a
 .exact(Sm.two b c).2 X d⟩
def oE{E:XK}(a:bA CL H ll as Pf)(i:Pf.length<=1000)(b:H pl=U)(c:ab H pl (.ae (nv (Ë r))) ql=U)(l:FV H fv (ad0 r))(o:∀A,ad0 r=O A->gw A)(p:∀j∈Ë r,j<Pf.length/\Sm (Î Pf j)) (m:Þ (Î Pf) r=.ok Sq) (k:∀(H':Hp)(d:List À),Kb ll H H'->bA CL H' ll d (Ö Pf r)->k9 H as H' d->Q (.int (Pf.length:Nat)) H'):Nw CL [.ref ll,.str (S (bp r)),.ref pl,.ref ql,fv] (ab (ab H pl (.ae (nv (Ë r)))) ql (.ae (nv (bR r)))) Q E:=by
 have e:aa H (ab H pl<|.ae (nv (Ë r))):=aa.ab b;have h:aa (ab H pl<|.ae<|nv<|Ë r) (ab (ab H pl<|.ae<|nv<|Ë r) ql<|.ae (nv (bR r))):=aa.ab c;have s:=e.trans h;exact⟨ll,pl,ql,as,Pf,r,fv,Sq,J,a.same s,i,h _ _ aq,aq,l.aT<|aa.aT s,o,(λz=>by rw[z,a.ae]at b;cases b),(λz=>by rw[z,e _ _ a.ae]at c;cases c),p,m,λH' d kb q v=>k H' d ((aa.kb s).trans kb) q<|(λn f=>(by
  have g:=k9.same a s n f;have a1:n≠pl:=λz=>f (by rw[z];exact b);have a2:n≠ql:=λz=>f (by rw[z];exact e.free c);exact⟨(v n g.1 a1 a2).1,λx=>(v n g.1 a1 a2).2<|g.2 x⟩))⟩
def mM(p:Nat)(X Y:Â)(Q:Ê):Proof:=Ö (Ö (ap Y<|ap X Q)<|.tensor ((ap X Q).length-1) p ((ap Y<|ap X Q).length-1) p)<|.par (ap Y<|ap X Q).length 0 1
def kK(p:Nat)(X Y C D:Â)(Q:Ê):Proof:=let Q1:=Ö (ap X Q)<|.plus1 ((ap X Q).length-1) p D
 let Q2:=ap Y Q1
 Ö (Ö Q2<|.plus2 (Q2.length-1) p C)<|.wth (Q1.length-1) 0 Q2.length 0
def mN(p:Nat)(X:Â)(Q:Ê):Proof:=Ö (Ö (ap X Q)<|.der ((ap X Q).length-1) p)<|.prom (ap X Q).length 0
def qR(Q:Ê):Proof:=Ö Q<|.ex (Q.length-1) 0 1
def ac3(p:Nat)(X Y:Â)(Q:Ê):(mM p X Y Q).length=Q.length+à X+à Y+2:=by simp only[mM,bq,bN]
def ac4(p:Nat)(X Y C D:Â)(Q:Ê):(kK p X Y C D Q).length=Q.length+à X+à Y+3:=by simp only[kK,bq,bN];lia
def ac5(p:Nat)(X:Â)(Q:Ê):(mN p X Q).length=Q.length+à X+2:=by simp only[mN,bq,bN]
def ac6(X Y:Â)(Q:Ê):ap (.par X Y) Q=qR (mM 1 X Y Q):=by unfold qR;rw[show(mM 1 X Y Q).length-1=(ap Y<|ap X Q).length+1 by unfold mM;rw[bq,bq];rfl];rfl
def ac7(X Y:Â)(Q:Ê):ap (.wth X Y) Q=qR (kK 1 X Y (Æ X) (Æ Y) Q):=by unfold qR;rw[show(kK 1 X Y (Æ X) (Æ Y) Q).length-1=(ap Y<|Ö (ap X Q)<|.plus1 ((ap X Q).length-1) 1<|Æ Y).length+1 by unfold kK;rw[bq,bq];rfl];rfl
def ac8(X:Â)(Q:Ê):ap (.ofc X) Q=qR (mN 1 X Q):=by unfold qR;rw[show(mN 1 X Q).length-1=(ap X Q).length+1 by unfold mN;rw[bq,bq];rfl];rfl
def rS(a:aE X=true)(b:aE Y=true):aE (.tensor X Y)=true/\aE (.par X Y)=true/\aE (.wth X Y)=true/\aE (.plus X Y)=true:=by simp[aE,a,b]
def qr(h:aE X=true/\Å X<=n):aE (Æ X)=true/\Å (Æ X)<=n:=⟨by rw[gh];exact h.1,by rw[fN];exact h.2⟩
def Nz(e:p=0\/p=1){Q:Ê}(a:aE X=true/\Å X<=200)(b:aE Y=true/\Å Y<=200):(c3 λA B C=>Þ (Î (ap Y (ap X Q))) (.tensor ((ap X Q).length-1) p ((ap Y (ap X Q)).length-1) p)=.ok [A,B,C]/\(aE A=true/\Å A<=200)/\(aE B=true/\Å B<=200)/\gw C/\Þ (Î (Ö (ap Y (ap X Q)) (.tensor ((ap X Q).length-1) p ((ap Y (ap X Q)).length-1) p))) (.par (ap Y (ap X Q)).length 0 1)=.ok [C,.par A B]/\Î (Ö (ap Y (ap X Q)) (.tensor ((ap X Q).length-1) p ((ap Y (ap X Q)).length-1) p)) (ap Y (ap X Q)).length=[A,B,C]/\Î (mM p X Y Q) ((mM p X Y Q).length-1)=[C,.par A B])/\Î (ap Y (ap X Q)) ((ap X Q).length-1)=[X,Æ X]/\Î (ap Y (ap X Q)) ((ap Y (ap X Q)).length-1)=[Y,Æ Y]:=by
 have h1:=eK X Q;have h2:=eK Y<|ap X Q;have f:=bN X Q;have g:=d4 X;rw[<-fO Y (ap X Q) Z]at h1;have c:=qr a;have d:=qr b;refine⟨?_,h1,h2⟩;rcases e with rfl|rfl
 .let m1:=Ef h1 h2;have m2:=uH<|cE m1;exact⟨_,_,_,m1,c,d,⟨(rS a.1 b.1).1,Od⟩,m2,cE m1,qc m2⟩
 .let m1:=Eg h1 h2;have m2:=uH<|cE m1;exact⟨_,_,_,m1,a,b,⟨(rS c.1 d.1).1,Od⟩,m2,cE m1,qc m2⟩
def NA{C D:Â}{Q:Ê}(e:aE X=true/\Å X<=200)(f:aE Y=true/\Å Y<=200)(k:(p=0/\C=X/\D=Y)\/(p=1/\C=Æ X/\D=Æ Y)):c2 λg a=>g=Ö (ap X Q) (.plus1 ((ap X Q).length-1) p D)/\a=ap Y g/\Î (ap X Q) ((ap X Q).length-1)=[X,Æ X]/\Î a (a.length-1)=[Y,Æ Y]/\(∃M,Þ (Î (ap X Q)) (.plus1 ((ap X Q).length-1) p D)=.ok M)/\(∃M,Þ (Î a) (.plus2 (a.length-1) p C)=.ok M)/\c3 λA B z=>Î (Ö a (.plus2 (a.length-1) p C)) (g.length-1)=[A,z]/\Î (Ö a (.plus2 (a.length-1) p C)) a.length=[B,z]/\gw A/\gw B/\gw z/\Þ (Î (Ö a (.plus2 (a.length-1) p C))) (.wth (g.length-1) 0 a.length 0)=.ok [z,.wth A B]/\gw (.wth A B)/\Î (kK p X Y C D Q) ((kK p X Y C D Q).length-1)=[z,.wth A B]:=by
 refine⟨_,_,J,J,?_⟩;have h:=qr e;have i:=qr f;have h1:=eK X Q;have l:=bN X Q;have m:=d4 X;have j:=bq (ap X Q)<|.plus1 ((ap X Q).length-1) p D;have h2:=eK Y<|Ö (ap X Q)<|.plus1 ((ap X Q).length-1) p D;have l2:=bN Y<|Ö (ap X Q)<|.plus1 ((ap X Q).length-1) p D;refine⟨h1,h2,?_⟩;rcases k with⟨rfl,rfl,rfl⟩|⟨rfl,rfl,rfl⟩
 .have m1:=Eh (Y:=D) h1;have b:=cE m1;rw[<-fO D _ Z]at b;have m2:=Ej (X:=C) h2;have d:=cE m2;rw[<-fe _ (.plus2 ((ap D<|Ö (ap C Q)<|.plus1 ((ap C Q).length-1) 0 D).length-1) 0 C) Z]at b;have m3:=uI b d;have c:(Ö (ap C Q)<|.plus1 ((ap C Q).length-1) 0 D).length-1=(ap C Q).length:=by rw[j];rfl
  refine⟨⟨_,m1⟩,⟨_,m2⟩,Æ C,Æ D,.plus C D,by rw[c];exact b,d,⟨h.1,Z⟩,⟨i.1,Z⟩,⟨(rS e.1 f.1).2.2.2,Od⟩,by rw[c];exact m3,⟨(rS h.1 i.1).2.2.1,Od⟩,?_⟩;unfold kK;simp only[c];exact qc m3
 .have m1:=Ei (Y:=Æ Y) h1;have b:=cE m1;rw[<-fO Y _ Z]at b;have m2:=Ek (X:=Æ X) h2;have d:=cE m2;rw[<-fe _ (.plus2 ((ap Y<|Ö (ap X Q)<|.plus1 ((ap X Q).length-1) 1<|Æ Y).length-1) 1<|Æ X) Z]at b;have m3:=uI b d;have c:(Ö (ap X Q)<|.plus1 ((ap X Q).length-1) 1<|Æ Y).length-1=(ap X Q).length:=by rw[j];rfl
  refine⟨⟨_,m1⟩,⟨_,m2⟩,X,Y,.plus (Æ X)<|Æ Y,by rw[c];exact b,d,⟨e.1,Z⟩,⟨f.1,Z⟩,⟨(rS h.1 i.1).2.2.2,Od⟩,by rw[c];exact m3,⟨(rS e.1 f.1).2.2.1,Od⟩,?_⟩;unfold kK;simp only[c];exact qc m3
def NB(c:p=0\/p=1){Q:Ê}(a:aE X=true/\Å X<=200):Î (ap X Q) ((ap X Q).length-1)=[X,Æ X]/\(∃M,Þ (Î (ap X Q)) (.der ((ap X Q).length-1) p)=.ok M)/\c2 λA B=>Î (Ö (ap X Q) (.der ((ap X Q).length-1) p)) (ap X Q).length=[A,.whn B]/\gw A/\gw (.whn B)/\gw (.ofc A)/\Þ (Î (Ö (ap X Q) (.der ((ap X Q).length-1) p))) (.prom (ap X Q).length 0)=.ok [.whn B,.ofc A]/\Î (mN p X Q) ((mN p X Q).length-1)=[.whn B,.ofc A]:=by
 let h1:=eK X Q;let b:=qr a;refine⟨h1,?_⟩;rcases c with rfl|rfl
 .let m1:=El h1;let m2:=uJ<|cE m1;exact⟨⟨_,m1⟩,_,_,cE m1,⟨b.1,Z⟩,⟨a.1,Od⟩,⟨b.1,Od⟩,m2,qc m2⟩
 .let m1:=Em h1;let m2:=uJ<|cE m1;exact⟨⟨_,m1⟩,_,_,cE m1,⟨a.1,Z⟩,⟨b.1,Od⟩,⟨a.1,Od⟩,m2,qc m2⟩
inductive lP(CL:À)(d:Nat)(vs:List V)(H:Hp)(Q:VK)(_:XK):Prop|m(ll fa:À)(as:List À)(Pf:Ê)(A:Â)(_:vs=[.ref ll,.ref fa])(_:bA CL H ll as Pf)(_:bF H A fa)(_:Ý A<=d)(_:Å A<=200)(_:Pf.length+à A<=200)(_:∀(H':Hp)(bg:List À),Kb ll H H'->bA CL H' ll bg (ap A Pf)->k9 H as H' bg->Q (.int (((ap A Pf).length-1:Nat):Int)) H')
structure P2(CL:À)(d:Nat)(H:Hp)(ll pa x y:À)(as:List À)(Pf:Ê)(X Y:Â):Prop where
 pr:bA CL H ll as Pf
 jl:H pa=O (.ae [.ref x,.ref y])
 cu:pa≠ll
 rx:bF H X x
 ry:bF H Y y
 dx:Ý X<=d
 dy:Ý Y<=d
 nx:Å X<=200
 ny:Å Y<=200
structure P1(CL:À)(d:Nat)(H:Hp)(ll pa x:À)(as:List À)(Pf:Ê)(X:Â):Prop where
 pr:bA CL H ll as Pf
 jl:H pa=O (.ae [.ref x])
 cu:pa≠ll
 rx:bF H X x
 dx:Ý X<=d
 nx:Å X<=200
def u1(CL ll:À)(H:Hp)(as:List À)(R:Ê)(Q:VK):Prop:=∀(H':Hp)(bg:List À),Kb ll H H'->bA CL H' ll bg R->k9 H as H' bg->Q (.int ((R.length-1:Nat):Int)) H'
inductive ac9(CL:À)(d:Nat)(vs:List V)(H:Hp)(Q:VK)(_:XK):Prop|m(ll pa x y:À)(as:List À)(Pf:Ê)(X Y:Â)(p:Nat)(_:vs=[.ref ll,.ref pa,.int (p:Nat)])(_:P2 CL d H ll pa x y as Pf X Y)(_:(p=0\/p=1))(_:Pf.length+à X+à Y+2<=200)(_:u1 CL ll H as (mM p X Y Pf) Q)
inductive ada(CL:À)(d:Nat)(vs:List V)(H:Hp)(Q:VK)(_:XK):Prop|m(ll pa ca x y c e:À)(as:List À)(Pf:Ê)(X Y C D:Â)(p:Nat)(_:vs=[.ref ll,.ref pa,.ref ca,.int (p:Nat)])(_:P2 CL d H ll pa x y as Pf X Y)(_:H ca=O (.ae [.ref c,.ref e]))(_:ca≠ll)(_:bF H C c)(_:bF H D e)(_:((p=0/\C=X/\D=Y)\/(p=1/\C=Æ X/\D=Æ Y)))(_:Pf.length+à X+à Y+3<=200)(_:u1 CL ll H as (kK p X Y C D Pf) Q)
inductive adb(CL:À)(d:Nat)(vs:List V)(H:Hp)(Q:VK)(_:XK):Prop|m(ll pa x:À)(as:List À)(Pf:Ê)(X:Â)(p:Nat)(_:vs=[.ref ll,.ref pa,.int (p:Nat)])(_:P1 CL d H ll pa x as Pf X)(_:(p=0\/p=1))(_:Pf.length+à X+2<=200)(_:u1 CL ll H as (mN p X Pf) Q)
inductive adc(CL:À)(vs:List V)(H:Hp)(Q:VK)(_:XK):Prop|m(ll:À)(as:List À)(Pf:Ê)(A B:Â)(_:vs=[.ref ll,.int ((Pf.length-1:Nat):Int)])(_:bA CL H ll as Pf)(_:1<=Pf.length)(_:Pf.length<=1000)(_:Î Pf (Pf.length-1)=[A,B])(_:gw A)(_:gw B)(_:u1 CL ll H as (qR Pf) Q)
def fS{a:Nat}{ps:List Ã}{sp:Sp}(G:Ok P w K mg base k x ps sp)(hk:k<=a)(b:mg x=O (.ref f)):Fv P w K mg base a f sp:=by
 obtain⟨g,fd,F,c,kp,d⟩:=G;have e:=c.symm.trans b;cases e;exact⟨fd,ps,F.dE hk,kp,d⟩
def Fw:Ok P w K mg base 8 "put_exchange" ["lines","number"] (adc CL):=bh ["lines","number"] T.Ze λH vs Q nd d h=>by
 obtain⟨ll,as,Pf,A,B,rfl,e,h1,f,c,a,b,k⟩:=h;refine⟨_,yr<|yc (oC T) d<|bx (pv 0)<|bx cz<|bx (bH<|y1<|pv 1)<|bx (bH<|y2 aG aG)<|bx cH cW,?_⟩;refine⟨Ge,λpl g=>⟨Ob,λql i=>?_⟩⟩;try simp only[dN,tC,dF];refine oE (E:=E0) (r:=.ex (Pf.length-1) 0 1) e f g i J (λA z=>by exact eG z) (λj l=>?_) (rJ c) λH' m kb n o=>?_
 .have:j=Pf.length-1:=by simpa[Ë]using l
  subst this;exact⟨Z,by rw[c];exact Sm.two a b⟩
 .have:=k H' m kb n o;rw[qR,bq]at this;exact this
def NC(m:Ok P w K mg base (3*d+10) "put_spread" ["lines","formula"] (lP CL d)):Ok P w K mg base (3*d+11) "put_joined" ["lines","parts","place"] (ac9 CL d):=bh ["lines","parts","place","first","second","tensor"] T.Y8 λH vs Q nd c h=>by
 obtain⟨ll,n,x,y,as,Pf,X,Y,p,rfl,h,q,V,k⟩:=h;refine⟨_,az (ys 3 nd<|yc m c (y2 (pv 0)<|yl (pv 1) aG) Z)<|az (ys 4 nd<|yc m c (y2 (pv 0)<|yl (pv 1) aG) Z)<|az (ys 5 nd<|yc (oC T) c (bx (pv 0)<|bx cz<|bx (bH<|y2 (pv 3)<|pv 4)<|bx (bH<|y2 (pv 2)<|pv 2)<|bx cH cW) Z)<|yr<|yc (oC T) c (bx (pv 0)<|bx cz<|bx (bH<|y1<|pv 5)<|bx (bH<|y2 aG aG)<|bx cH cW) Z,?_⟩;have aav:=d4 X;have p2:=d4 Y;have l1:=bN X Pf;have l2:=bN Y<|ap X Pf;refine gg λP0 p0=>?_;obtain⟨⟨A,B,C,m1,s,t,u,m2,e2,e3⟩,h1,h2⟩:=Nz (Q:=Pf) q ⟨h.rx.2,h.nx⟩ ⟨h.ry.2,h.ny⟩;refine p0 ?_;have o:∀{a3:Â},aE a3=true->Å a3<=200->Sm [a3,Æ a3]:=λ{a3} a b=>by have d:=qr (X:=a3) ⟨a,b⟩;exact Sm.two ⟨a,Z⟩ ⟨d.1,by have:=d.2;lia⟩
 refine⟨_,_,ao.of h.jl,J,ll,x,as,Pf,X,J,h.pr,h.rx,h.dx,h.nx,Z,λH1 v Γ D F=>?_⟩;have e:=Γ _ _ h.jl h.cu;have f:=h.ry.kb Γ h.pr.ae;refine⟨_,_,ao.of e,J,ll,y,v,ap X Pf,Y,J,D,f,h.dy,h.ny,Z,λH2 im Ε G I=>?_⟩;refine⟨Ob,λpl g=>⟨Ob,λql i=>?_⟩⟩;try simp only[dN,tC,dF];refine oE (E:=E0) (r:=.tensor ((ap X Pf).length-1) p ((ap Y<|ap X Pf).length-1) p) G Z g i J (λA z=>by exact eG z) (λj l=>?_) m1 λH3 tP a2 L M=>?_
 .have:j=(ap X Pf).length-1\/j=(ap Y<|ap X Pf).length-1:=by simpa[Ë]using l
  rcases this with rfl|rfl
  .exact⟨Z,by rw[h1];exact o h.rx.2 h.nx⟩
  .exact⟨Z,by rw[h2];exact o h.ry.2 h.ny⟩
 .refine⟨Ge,λpl g=>⟨Ob,λql i=>?_⟩⟩;have l3:=bq (ap Y<|ap X Pf)<|.tensor ((ap X Pf).length-1) p ((ap Y<|ap X Pf).length-1) p;try simp only[dN,tC,dF];refine oE (E:=E0) (r:=.par (ap Y<|ap X Pf).length 0 1) L Z g i J (λA z=>by exact eG z) (λj l=>?_) m2 λN a0 R S a1=>?_
  .have:j=(ap Y<|ap X Pf).length:=by simpa[Ë]using l
   subst this;exact⟨Z,by rw[e2];exact Sm.xb ⟨s.1,Z⟩ ⟨t.1,Z⟩ u⟩
  .have:=k N a0 (((Γ.trans Ε).trans a2).trans R) S<|((F.trans I).trans M).trans a1;rw[mM,bq]at this;exact this
def ND(F:Ok P w K mg base (3*d+10) "put_spread" ["lines","formula"] (lP CL d)):Ok P w K mg base (3*d+11) "put_choice" ["lines","parts","choices","place"] (ada CL d):=bh ["lines","parts","choices","place","first","first_plus","second","second_plus"] T.Za λH vs Q nd m h=>by
 obtain⟨ll,G,I,x,y,c,e,as,Pf,X,Y,C,D,p,rfl,h,a2,L,M,N,a0,hz,k⟩:=h;refine⟨_,az (ys 4 nd<|yc F m (y2 (pv 0)<|yl (pv 1) aG) Z)<|az (ys 5 nd<|yc (oC T) m (bx (pv 0)<|bx cz<|bx (bH<|y1<|pv 4)<|bx (bH<|y1<|pv 3)<|bx (yl (pv 2) aG) cW) Z)<|az (ys 6 nd<|yc F m (y2 (pv 0)<|yl (pv 1) aG) Z)<|az (ys 7 nd<|yc (oC T) m (bx (pv 0)<|bx cz<|bx (bH<|y1<|pv 6)<|bx (bH<|y1 (pv 3))<|bx (yl (pv 2) aG) cW) Z)<|yr<|yc (oC T) m (bx (pv 0)<|bx cz<|bx (bH<|y2 (pv 5) (pv 7))<|bx (bH (y2 aG aG)) (bx cH cW)) Z,?_⟩;have p1:=d4 X;have p2:=d4 Y;have R:Å C<=1000/\Å D<=1000:=by
  rcases a0 with⟨_,rfl,rfl⟩|⟨_,rfl,rfl⟩
  .have:=h.nx;have:=h.ny;lia
  .rw[fN,fN];have:=h.nx;have:=h.ny;lia
 refine gg λP0 p0=>?_;obtain⟨g,f,o,q,h1,h2,⟨M1,m1⟩,⟨M2,m2⟩,A,B,a3,q1,q2,sA,sB,S,m3,_,e3⟩:=NA (Q:=Pf) ⟨h.rx.2,h.nx⟩ ⟨h.ry.2,h.ny⟩ a0;refine p0 ?_;have a1:∀{a3:Â},aE a3=true->Å a3<=200->Sm [a3,Æ a3]:=λ{a3} a b=>by have d:=qr (X:=a3) ⟨a,b⟩;exact Sm.two ⟨a,Z⟩ ⟨d.1,by have:=d.2;lia⟩
 have ek:kK p X Y C D Pf=Ö (Ö f<|.plus2 (f.length-1) p C) (.wth (g.length-1) 0 f.length 0):=by rw[q,o];rfl
 have l1:=bN X Pf;have l2:g.length=(ap X Pf).length+1:=by rw[o,bq]
 have l3:f.length=g.length+à Y:=by rw[q,bN]
 refine⟨_,_,ao.of h.jl,J,ll,x,as,Pf,X,J,h.pr,h.rx,h.dx,h.nx,Z,λH1 pk Γ mf v1=>?_⟩;refine⟨Ge,λpl i=>⟨Ge,λql l=>?_⟩⟩;have s1:aa H1 (ab (ab H1 pl<|.ae<|nv [(ap X Pf).length-1]) ql<|.ae (nv [p])):=(aa.ab i).trans<|aa.ab l;refine⟨_,_,ao.of<|s1 _ _<|Γ _ _ a2 L,J,?_⟩;try simp only[dN,tC,dF];refine oE (E:=E0) (r:=.plus1 ((ap X Pf).length-1) p D) mf Z i l ⟨e,J,N.kb Γ h.pr.ae⟩ (λA z=>by cases z;exact⟨N.2,R.2⟩) (λj n=>?_) m1 λH2 im Ε V v2=>?_
 .have:j=(ap X Pf).length-1:=by simpa[Ë]using n
  subst this;exact⟨Z,by rw[h1];exact a1 h.rx.2 h.nx⟩
 rw[<-o]at V;have s:=Γ.trans Ε;refine⟨_,_,ao.of<|s _ _ h.jl h.cu,J,ll,y,im,g,Y,J,V,h.ry.kb s h.pr.ae,h.dy,h.ny,Z,λaav tP k3 iQ v3=>?_⟩;rw[<-q]at iQ⊢;have t:=s.trans k3;refine⟨Ge,λpl i=>⟨Ge,λql l=>?_⟩⟩;have s3:aa aav (ab (ab aav pl<|.ae<|nv [f.length-1]) ql<|.ae (nv [p])):=(aa.ab i).trans<|aa.ab l;refine⟨_,_,ao.of<|s3 _ _<|t _ _ a2 L,J,?_⟩;try simp only[dN,tC,dF];refine oE (E:=E0) (r:=.plus2 (f.length-1) p C) iQ Z i l ⟨c,J,M.kb t h.pr.ae⟩ (λA z=>by cases z;exact⟨M.2,R.1⟩) (λj n=>?_) m2 λH4 P6 k4 Hb v4=>?_
 .have:j=f.length-1:=by simpa[Ë]using n
  subst this;exact⟨Z,by rw[h2];exact a1 h.ry.2 h.ny⟩
 have l4:=bq f<|.plus2 (f.length-1) p C;have eI:(((ap X Pf).length:Nat):Int)=((g.length-1:Nat):Int):=by rw[l2];rfl
 rw[eI];refine⟨Ob,λpl i=>⟨Ob,λql l=>?_⟩⟩;try simp only[dN,tC,dF];refine oE (E:=E0) (r:=.wth (g.length-1) 0 f.length 0) Hb Z i l J (λA z=>by exact eG z) (λj n=>?_) m3 λH5 u k5 v v5=>?_
 .have:j=g.length-1\/j=f.length:=by simpa[Ë]using n
  rcases this with rfl|rfl
  .exact⟨Z,by rw[q1];exact Sm.two sA S⟩
  .exact⟨Z,by rw[q2];exact Sm.two sB S⟩
 .rw[ek]at k;have:=k H5 u ((t.trans k4).trans k5) v<|(((v1.trans v2).trans v3).trans v4).trans v5;rw[bq]at this;exact this
def NE(f:Ok P w K mg base (3*d+10) "put_spread" ["lines","formula"] (lP CL d)):Ok P w K mg base (3*d+11) "put_promoted" ["lines","parts","place"] (adb CL d):=bh ["lines","parts","place","last","derelict"] T.Zd λH vs Q nd a h=>by
 obtain⟨ll,g,x,as,Pf,X,p,rfl,h,i,F,k⟩:=h;refine⟨_,az (ys 3 nd<|yc f a (y2 (pv 0)<|yl (pv 1) aG) Z)<|az (ys 4 nd<|yc (oC T) a (bx (pv 0)<|bx cz<|bx (bH<|y1<|pv 3)<|bx (bH<|y1<|pv 2)<|bx cH cW) Z)<|yr<|yc (oC T) a (bx (pv 0)<|bx cz<|bx (bH<|y1<|pv 4)<|bx (bH<|y1 aG)<|bx cH cW) Z,?_⟩;have G:=d4 X;have I:=bN X Pf;obtain⟨h1,⟨M1,m1⟩,A,B,l,m,n,_,m2,e2⟩:=NB (Q:=Pf) i ⟨h.rx.2,h.nx⟩;refine⟨_,_,ao.of h.jl,J,ll,x,as,Pf,X,J,h.pr,h.rx,h.dx,h.nx,Z,λH1 a0 Γ o q=>?_⟩;refine⟨Ge,λpl b=>⟨Ge,λql c=>?_⟩⟩;try simp only[dN,tC,dF];refine oE (E:=E0) (r:=.der ((ap X Pf).length-1) p) o Z b c J (λA z=>by cases z) (λj e=>?_) m1 λH2 L Ε s t=>?_
 .have:j=(ap X Pf).length-1:=by simpa[Ë]using e
  subst this;have d:=qr (X:=X) ⟨h.rx.2,h.nx⟩;exact⟨Z,by rw[h1];exact Sm.two ⟨h.rx.2,by have:=h.nx;lia⟩ ⟨d.1,by have:=d.2;lia⟩⟩
 have l2:=bq (ap X Pf)<|.der ((ap X Pf).length-1) p;refine⟨Ge,λpl b=>⟨Ge,λql c=>?_⟩⟩;try simp only[dN,tC,dF];refine oE (E:=E0) (r:=.prom (ap X Pf).length 0) s Z b c J (λA z=>by cases z) (λj e=>?_) m2 λu v y C D=>?_
 .have:j=(ap X Pf).length:=by simpa[Ë]using e
  subst this;exact⟨Z,by rw[l];exact Sm.two m n⟩
 .have:=k u v ((Γ.trans Ε).trans y) C<|(q.trans t).trans D;rw[mN,bq]at this;exact this
inductive xy(CL:À)(d:Nat)(mk:Â->Â->Â)(vs:List V)(H:Hp)(Q:VK)(_:XK):Prop|m(ll pa x y:À)(as:List À)(Pf:Ê)(X Y:Â)(_:vs=[.ref ll,.ref pa])(_:P2 CL d H ll pa x y as Pf X Y)(_:Pf.length+à (mk X Y)<=200)(_:u1 CL ll H as (ap (mk X Y) Pf) Q)
inductive Fx(CL:À)(d:Nat)(mk:Â->Â)(vs:List V)(H:Hp)(Q:VK)(_:XK):Prop|m(ll pa x:À)(as:List À)(Pf:Ê)(X:Â)(_:vs=[.ref ll,.ref pa])(_:P1 CL d H ll pa x as Pf X)(_:Pf.length+à (mk X)<=200)(_:u1 CL ll H as (ap (mk X) Pf) Q)
def adf(a:Ok P w K mg base (3*d+10) "put_spread" ["lines","formula"] (lP CL d)):Ok P w K mg base (3*d+12) "put_tensor" ["lines","parts"] (xy CL d .tensor):=bh ["lines","parts"] T.Y6 λH vs Q nd b h=>by obtain⟨ll,c,x,y,as,Pf,X,Y,rfl,h,e,k⟩:=h;refine⟨_,yr<|yc (NC T a) b (y3 (pv 0) (pv 1) aG) Z,?_⟩;simp only[à]at e;exact⟨ll,c,x,y,as,Pf,X,Y,0,J,h,.inl J,Z,k⟩
def adg(b:Ok P w K mg base (3*d+10) "put_spread" ["lines","formula"] (lP CL d)):Ok P w K mg base (3*d+12) "put_par" ["lines","parts"] (xy CL d .par):=bh ["lines","parts"] T.Y7 λH vs Q nd a h=>by obtain⟨ll,c,x,y,as,Pf,X,Y,rfl,h,e,k⟩:=h;refine⟨_,yr<|yc (Fw T) a (y2 (pv 0)<|yc (NC T b) a (y3 (pv 0) (pv 1) aG) Z) Z,?_⟩;simp only[à]at e;let l:=ac3 1 X Y Pf;obtain⟨⟨A,B,C,m1,f,g,i,m2,e2,j⟩,h1,h2⟩:=Nz (Q:=Pf) (.inr rfl:(1:Nat)=0\/(1:Nat)=1) ⟨h.rx.2,h.nx⟩ ⟨h.ry.2,h.ny⟩;rw[ac6]at k;exact⟨ll,c,x,y,as,Pf,X,Y,1,J,h,.inr J,Z,λH1 m Γ n o=>⟨ll,m,mM 1 X Y Pf,C,.par A B,J,n,Z,Z,j,i,⟨(rS f.1 g.1).2.1,Od⟩,λH2 p Ε q r=>k H2 p (Γ.trans Ε) q<|o.trans r⟩⟩
def adh(b:Ok P w K mg base (3*d+10) "put_spread" ["lines","formula"] (lP CL d)):Ok P w K mg base (3*d+12) "put_plus" ["lines","parts"] (xy CL d .plus):=bh ["lines","parts"] T.Y_ λH vs Q nd c h=>by obtain⟨ll,a,x,y,as,Pf,X,Y,rfl,h,e,k⟩:=h;refine⟨_,yr<|yc (ND T b) c (bx (pv 0)<|bx (pv 1)<|bx (pv 1)<|bx aG cW) Z,?_⟩;simp only[à]at e;exact⟨ll,a,a,x,y,x,y,as,Pf,X,Y,X,Y,0,J,h,h.jl,h.cu,h.rx,h.ry,.inl ⟨J,J,J⟩,Z,k⟩
def adi(I:Ok P w K mg base (3*d+10) "put_spread" ["lines","formula"] (lP CL d)):Ok P w K mg base (3*d+12) "put_with" ["lines","parts"] (xy CL d .wth):=by
 refine bh ["lines","parts","duals","part"] T.Y9 λH vs Q nd s h=>?_;obtain⟨ll,g,x,y,as,Pf,X,Y,rfl,h,a2,k⟩:=h;refine⟨_,(az (yy 2 3 nd (dm<|pv 1) λ_ _ _ _ _=>(yc (rL T) s (y1<|pv 3) Z))<|yr<|yc (Fw T) s (y2 (pv 0)<|yc (ND T I) s (bx (pv 0)<|bx (pv 1)<|bx (pv 2)<|bx aG cW) Z) Z),?_⟩;simp only[à]at a2;refine⟨g,J,⟨_,ao.of h.jl⟩,λD t=>Fu (K:=K) (a:=g) (xs:=[.ref x,.ref y]) (R:=λi v H'=>c2 λa a3=>([X,Y]:List Â)[i]?=O a3/\v=.ref a/\a≠D/\bF H' (Æ a3) a) (by show 3<4;decide) (ao.of h.jl) (by show 2<=1000000;decide) t (λi v H' j ⟨a,a3,L,M,F,G⟩ kb=>⟨a,a3,L,M,F,kb _ _ G.1 F,G.2⟩) (λi v b H' Q' s' m q=>?_) λH1 vals f u N o=>?_⟩
 .obtain⟨acc,m⟩:=m;match i,b with
  |0,b=>cases b;exact⟨X,x,J,h.rx.same s',by have:=h.nx;lia,λj a E na r=>q j _ E ⟨a,X,J,J,(λz=>by rw[z,m]at na;cases na),r⟩⟩
  |1,b=>cases b;exact⟨Y,y,J,h.ry.same s',by have:=h.ny;lia,λj a E na r=>q j _ E ⟨a,Y,J,J,(λz=>by rw[z,m]at na;cases na),r⟩⟩
  |n+2,b=>simp at b
 .match vals,N,u,o with
  |[v0,v1],_,u,o=>
   obtain⟨c,Z0,a0,rfl,_,S⟩:=o 0 v0 J;cases a0;obtain⟨e,Z1,a1,rfl,_,V⟩:=o 1 v1 J;cases a1;have l:=ac4 1 X Y (Æ X) (Æ Y) Pf;obtain⟨Q1,Q2,Ch,Ci,h1,h2,⟨M1,m1⟩,⟨M2,m2⟩,A,B,a3,q1,q2,sA,sB,aav,m3,sW,e3⟩:=NA (Q:=Pf) ⟨h.rx.2,h.nx⟩ ⟨h.ry.2,h.ny⟩ (p:=1) (C:=Æ X) (D:=Æ Y)<|.inr ⟨J,J,J⟩;rw[ac7]at k;have h':P2 CL d H1 ll g x y as Pf X Y:=⟨h.pr.same f,f _ _ h.jl,h.cu,h.rx.same f,h.ry.same f,h.dx,h.dy,h.nx,h.ny⟩;exact⟨ll,g,D,x,y,c,e,as,Pf,X,Y,Æ X,Æ Y,1,J,h',u,(λz=>by rw[z,h.pr.ae]at t;cases t),S,V,.inr ⟨J,J,J⟩,Z,λH2 im Ε dZ v2=>⟨ll,im,kK 1 X Y (Æ X) (Æ Y) Pf,a3,.wth A B,J,dZ,Z,Z,e3,aav,sW,λH3 tP k3 iQ v3=>k H3 tP (((aa.kb f).trans Ε).trans k3) iQ<|((k9.same h.pr f).trans v2).trans v3⟩⟩
def adj(b:Ok P w K mg base (3*d+10) "put_spread" ["lines","formula"] (lP CL d)):Ok P w K mg base (3*d+12) "put_of_course" ["lines","parts"] (Fx CL d .ofc):=bh ["lines","parts"] T.Zb λH vs Q nd a h=>by obtain⟨ll,c,x,as,Pf,X,rfl,h,e,k⟩:=h;refine⟨_,yr<|yc (Fw T) a (y2 (pv 0)<|yc (NE T b) a (y3 (pv 0) (pv 1) aG) Z) Z,?_⟩;simp only[à]at e;let l:=ac5 1 X Pf;obtain⟨h1,⟨M1,m1⟩,A,B,q,r,f,g,m2,e2⟩:=NB (Q:=Pf) (.inr rfl:(1:Nat)=0\/(1:Nat)=1) ⟨h.rx.2,h.nx⟩;rw[ac8]at k;exact⟨ll,c,x,as,Pf,X,1,J,h,.inr J,Z,λH1 i Γ j m=>⟨ll,i,mN 1 X Pf,.whn B,.ofc A,J,j,Z,Z,e2,f,g,λH2 n Ε o p=>k H2 n (Γ.trans Ε) o<|m.trans p⟩⟩
def adk(a:Ok P w K mg base (3*d+10) "put_spread" ["lines","formula"] (lP CL d)):Ok P w K mg base (3*d+12) "put_why_not" ["lines","parts"] (Fx CL d .whn):=bh ["lines","parts"] T.Zc λH vs Q nd b h=>by obtain⟨ll,c,x,as,Pf,X,rfl,h,e,k⟩:=h;refine⟨_,yr<|yc (NE T a) b (y3 (pv 0) (pv 1) aG) Z,?_⟩;simp only[à]at e;exact⟨ll,c,x,as,Pf,X,0,J,h,.inl J,Z,k⟩
def adl(A:Â):0<Ý A:=by cases A<;>simp only[Ý]<;>lia
def adm:Ok P w K mg base 10 "put_spread" ["lines","formula"] (lP CL 0):=bh ["lines","formula","spreader"] T.L1 λH vs Q nd a h=>by obtain⟨ll,b,as,Pf,A,rfl,c,d,Β,_⟩:=h;let:=adl A;omega
def adn(c:Ä):(bT [((.inr (S [42]):aL),V.ref m0),(.inr (S [124]),.ref m1),(.inr (S [38]),.ref m2),(.inr (S [43]),.ref m3),(.inr (S [33]),.ref m4),(.inr (S [63]),.ref m5)] (.inr (S c)))=U\/da c=true:=by
 let ne:∀y:Ä,¬c=y->¬((.inr (S y):aL)=.inr (S c)):=λy h z=>h (by injection z with z;exact(gF z).symm);cases h:da c with
 |true=>exact .inr J
 |false=>left;unfold da bW gY at h;simp only[Óf,OS]at h;obtain⟨⟨h1,h2,a,b⟩,d,e⟩:=h;rw[ci<|ne _ h1,ci<|ne _ h2,ci<|ne _ a,ci<|ne _ b,ci<|ne _ d,ci<|ne _ e,uk]
def bF.nu{a:À}(h:bF H A a):gX (wV (wd A)) 0=O (.str (S (hd A))):=by obtain⟨r,e⟩:=Ab A;rw[e];exact cb (j:=0) J
theorem NF(T:Tx P w K mg CR CL CP CF CT):∀d,Ok P w K mg base (3*d+10) "put_spread" ["lines","formula"] (lP CL d)
|0=>adm T
|d+1=>by
 have B:=NF T d;obtain⟨s,m0,m1,m2,m3,m4,m5,N,t,V,aav,e2,e3,e4,e5⟩:=T.Y0;have v0:=fS (adf T B) (aN _) V;have v1:=fS (adg T B) (aN _) aav;have C:=fS (adi T B) (aN _) e2;have v3:=fS (adh T B) (aN _) e3;have v4:=fS (adj T B) (aN _) e4;have v5:=fS (adk T B) (aN _) e5;refine bh (k:=3*d+12) ["lines","formula","spreader"] T.L1 λH vs Q nd I h=>?_;obtain⟨ll,o,as,Pf,A,rfl,u,b,Β,p,a0,k⟩:=h;refine⟨_,(az (yw (pw (zO (yt (pv 1) aG) (bj N))) (yr (yc (oC T) I (bx (pv 0) (bx cz (bx (bH cW) (bx (bH cW) (bx (pv 1) cW))))) Z))) (az (ys 2 nd (uu (bj N) (yt (pv 1) aG))) (yr (cv (3*d+12) (I.dE Z) (pv 2) (y2 (pv 0) (yc (aaa T) I (y1 (pv 1)) Z)))))),?_⟩;have two:∀{mk:Â->Â->Â}{X Y:Â}{m:À}{H1:Hp}{l x y:À},A=mk X Y->Ý X<=d->Ý Y<=d->Å X<=200->Å Y<=200->aa H H1->H l=U->H1 l=O (.ae [.ref x,.ref y])->bF H1 X x->bF H1 Y y->xy CL d mk [.ref ll,.ref l] H1 Q E0:=λ{mk X Y m H1 l x y} D a1 a2 a3 a4 c f g i q=>⟨ll,l,x,y,as,Pf,X,Y,J,⟨u.same c,g,(λz=>by rw[z,u.ae]at f;cases f),i,q,a1,a2,a3,a4⟩,by exact(D)▸a0,λH2 a6 Ε F C=>by rw[<-D]at F⊢;exact k H2 a6 ((aa.kb c).trans Ε) F ((k9.same u c).trans C)⟩
 have c8:∀{mk:Â->Â}{X:Â}{m:À}{H1:Hp}{l x:À},A=mk X->Ý X<=d->Å X<=200->aa H H1->H l=U->H1 l=O (.ae [.ref x])->bF H1 X x->Fx CL d mk [.ref ll,.ref l] H1 Q E0:=λ{mk X m H1 l x} D a1 a3 c f g i=>⟨ll,l,x,as,Pf,X,J,⟨u.same c,g,(λz=>by rw[z,u.ae]at f;cases f),i,a1,a3⟩,by rw[<-D];exact a0,λH2 a6 Ε F C=>by rw[<-D]at F⊢;exact k H2 a6 ((aa.kb c).trans Ε) F ((k9.same u c).trans C)⟩
 refine⟨_,_,aV.of b.1,b.nu,s,_,.inr (S (hd A)),J,t,J,?_⟩;cases A with
 |atom n a=>
  rcases adn (m0:=m0) (m1:=m1) (m2:=m2) (m3:=m3) (m4:=m4) (m5:=m5) (hd (.atom n a))with e|e
  case inr=>
   have p:=b.2;simp only[aE]at p;have:=ir (n:=n) p;have L:da (aw n a)=true:=e;unfold da at L;rw[this.1,this.2]at L;cases L
  rw[e];refine⟨gn,λpl R=>⟨gn,λql a5=>?_⟩⟩;have c:aa H (ab (ab H pl (.ae [])) ql (.ae [])):=(aa.ab R).trans (aa.ab a5);refine(oE (E:=E0) (r:=.ax (.atom n a)) u Z R a5 ⟨o,J,b⟩ (λA z=>by cases z;exact⟨b.2,Z⟩) (λj hj=>by simp[Ë]at hj) J λH' bg kb iP v'=>?_);have:=k H' bg kb iP v';rw[ap,bq]at this;exact this
 |tensor X Y=>simp only[Ý,Å]at Β p;refine⟨_,_,aV.of b.1,b.nu,s,_,.inr (S (hd (.tensor X Y))),.ref m0,J,t,J,J,?_⟩;exact⟨m0,_,J,v0,.tensor X Y,o,J,b,Od,by simp[gi],λa7 z=>by simp[gi]at z,λG M z H1 l x y c f g i q=>by cases z;exact two (mk:=.tensor) (m:=m0) J Z Z Z Z c f g i q⟩
 |par X Y=>simp only[Ý,Å]at Β p;refine⟨_,_,aV.of b.1,b.nu,s,_,.inr (S (hd (.par X Y))),.ref m1,J,t,J,J,?_⟩;exact⟨m1,_,J,v1,.par X Y,o,J,b,Od,by simp[gi],λa7 z=>by simp[gi]at z,λG M z H1 l x y c f g i q=>by cases z;exact two (mk:=.par) (m:=m0) J Z Z Z Z c f g i q⟩
 |wth X Y=>simp only[Ý,Å]at Β p;refine⟨_,_,aV.of b.1,b.nu,s,_,.inr (S (hd (.wth X Y))),.ref m2,J,t,J,J,?_⟩;exact⟨m2,_,J,C,.wth X Y,o,J,b,Od,by simp[gi],λa7 z=>by simp[gi]at z,λG M z H1 l x y c f g i q=>by cases z;exact two (mk:=.wth) (m:=m0) J Z Z Z Z c f g i q⟩
 |plus X Y=>simp only[Ý,Å]at Β p;refine⟨_,_,aV.of b.1,b.nu,s,_,.inr (S (hd (.plus X Y))),.ref m3,J,t,J,J,?_⟩;exact⟨m3,_,J,v3,.plus X Y,o,J,b,Od,by simp[gi],λa7 z=>by simp[gi]at z,λG M z H1 l x y c f g i q=>by cases z;exact two (mk:=.plus) (m:=m0) J Z Z Z Z c f g i q⟩
 |ofc X=>simp only[Ý,Å]at Β p;refine⟨_,_,aV.of b.1,b.nu,s,_,.inr (S (hd (.ofc X))),.ref m4,J,t,J,J,?_⟩;exact⟨m4,_,J,v4,.ofc X,o,J,b,Od,by simp[gi],λG z H1 l x c f g i=>by cases z;exact c8 (mk:=.ofc) (m:=m0) J Z Z c f g i,λa7 Z' z=>by simp[gi]at z⟩
 |whn X=>simp only[Ý,Å]at Β p;refine⟨_,_,aV.of b.1,b.nu,s,_,.inr (S (hd (.whn X))),.ref m5,J,t,J,J,?_⟩;exact⟨m5,_,J,v5,.whn X,o,J,b,Od,by simp[gi],λG z H1 l x c f g i=>by cases z;exact c8 (mk:=.whn) (m:=m0) J Z Z c f g i,λa7 Z' z=>by simp[gi]at z⟩
def ado(x:Ä):(bT [((.inr (S [42]):aL),V.int 2),(.inr (S [124]),.int 3),(.inr (S [38]),.int 4),(.inr (S [43]),.int 3),(.inr (S [33]),.int 3),(.inr (S [63]),.int 2)] (.inr (S x))).getD (.int 1)=.int (lw x:Nat):=by
 have ne:∀y:Ä,¬x=y->¬((.inr (S y):aL)=.inr (S x)):=λy h z=>h (by injection z with z;exact(gF z).symm);by_cases h1:x=[42]
 .subst h1;rfl
 by_cases h2:x=[124]
 .subst h2;rfl
 by_cases a:x=[38]
 .subst a;rfl
 by_cases b:x=[43]
 .subst b;rfl
 by_cases c:x=[33]
 .subst c;rfl
 by_cases d:x=[63]
 .subst d;rfl
 rw[ci<|ne _ h1,ci<|ne _ h2,ci<|ne _ a,ci<|ne _ b,ci<|ne _ c,ci<|ne _ d,uk];unfold lw;rw[ai h1,ai h2,ai a,ai b,ai c,ai d];rfl
theorem NH(f:Ä->Nat):∀l:List Ä,(l.map λx=>(f x:Int)).sum=(((l.map f).sum:Nat):Int)
|[]=>rfl
|x::l=>by rw[bz,bz,l9,l9,NH f l];lia
def NI(r:Ù):decide (V.str (S (bp r))=V.str (S ň))=(afW r).isSome:=by
 rw[fR];cases r<;>rfl
inductive adp(vs:List V)(H:Hp)(Q:VK)(_:XK):Prop|m(A:Â)(fa:À)(_:vs=[.ref fa])(_:bF H A fa)(_:Å A<=100000)(_:∀H',aa H H'->Q (.int (à A:Nat)) H')
inductive adq(CL:À)(vs:List V)(H:Hp)(Q:VK)(_:XK):Prop|m(ll:À)(as:List À)(Pf:Ê)(_:vs=[.ref ll])(_:bA CL H ll as Pf)(_:cj Pf)(_:∀H':Hp,aa H H'->Q (.bl<|decide<|Ŀ Pf<=200) H')
inductive adr(CL:À)(vs:List V)(H:Hp)(Q:VK)(_:XK):Prop|m(ll:À)(as:List À)(Pf:Ê)(_:vs=[.ref ll])(_:bA CL H ll as Pf)(_:cj Pf)(_:(¬Ŀ Pf<=200->∀H':Hp,aa H H'->Q .aQ H'))(_:(Ŀ Pf<=200->∀(H':Hp)(D:À)(bg:List À),aa H H'->H D=U->bA CL H' D bg (Ψ Pf)->Q (.ref D) H'))
def NJ(h:(as.map V.ref)[i]?=O v):∃a,as[i]?=O a/\v=V.ref a:=by
 rw[aR]at h;cases e:as[i]? with
 |none=>rw[e]at h;exact eG h
 |some a=>rw[e]at h;exact⟨a,J,(cZ h).symm⟩
def ads{α:Type}{l:List α}{x:α}(h:l[i]?=O x):l.drop i=x::l.drop (i+1):=by obtain⟨hi,e⟩:=b9.mp h;rw[mQ hi,e]
def adt:Ok P w K mg base 1 "spread_size" ["formula"] adp:=by
 obtain⟨f,b,g⟩:=T.YZ;refine bh ["formula","word"] T.Zf λH vs Q nd o h=>?_;obtain⟨A,d,rfl,c,p,k⟩:=h;refine⟨_,yr<|eF (SE J) J T.YR boot_sum<|y1<|yv 1 nd (wg<|pv 0) λ_ _ _ _ _=>(Vv (P:=P) (w:=w) (K:=K) J J J (bj b) (pv 1) aG (by constructor<;>rfl)),?_⟩;let r:(wd A).length=Å A:=ee A;refine⟨d,J,⟨_,aV.of c.1⟩,λD j=>Kt (K:=K) (a:=d) (xs:=wV<|wd A) (vals:=((wd A).map λw=>(lw w:Int)).map V.int) (by show 1<2;decide) (aV.of c.1) (by rw[dI,aK,aK]) (by rw[dI];lia) j (λi x v l e H' s s' q=>?_) λH' s' m=>?_⟩
 .obtain⟨t,n,rfl⟩:=jP l;rw[aR,aR,n]at e;cases e;refine⟨f,_,J,g,.inr<|S t,J,?_⟩;rw[ado];exact q H'<|aa.refl H'
 .refine⟨D,_,J,ao.of m,?_⟩;rw[NH,lC c.2];exact k H' s'
def adv:Ok P w K mg base 2 "have_room" ["lines"] (adq CL):=bh ["lines","size","line"] T.Zg λH vs Q nd t h=>by
 obtain⟨ll,as,Pf,rfl,f,u,k⟩:=h;refine⟨_,az (ys 1 nd aG)<|az (yo (dm<|pv 0) (yx 2 nd) (az (ua (i:=1) nd J (by first|exact Ĵ J|exact ī J) (j_ (yq e_ (yf<|pv 2) cz) (yc (adt T) t<|y1<|yf<|pv 2) aG) uc)<|bS<|yw (yq q0 (pv 1)<|bj T.LY)<|yr fK))<|yr fK,?_⟩;have v:=T.nL "kind" gn;have x:=T.nL "formula" gn;have es:=Ep Pf;refine⟨ll,J,⟨_,ao.of f.ae⟩,kh (K:=K) (a:=ll) (xs:=as.map V.ref) (λi c H'=>∃(d:Option V),c=[O<|.ref ll,O<|.int (((Pf.take i).map di).sum:Nat),d]/\aa H H'/\((Pf.take i).map di).sum<=200) ⟨U,J,aa.refl H,Gc⟩ ?_ ?_ ?_⟩
 .rintro i c H' _ ⟨d,rfl,b,_⟩;exact ao.of<|b _ _ f.ae
 .rintro i y c H' C ⟨d,rfl,b,m⟩;obtain⟨a,E,rfl⟩:=NJ C;obtain⟨l,n,F⟩:=f.qO E;obtain⟨o,pl,ql,sl,fv,p,M,N,q,a0,_⟩:=F.same b;have r:=u.jh l<|bM n;have G:((Pf.take (i+1)).map di).sum=((Pf.take i).map di).sum+di l:=by rw[gC n,bU,xM];simp
  have e2:((Pf.take (i+1)).map di).sum<=Ŀ Pf:=by
   rw[es];conv=>rhs;rw[<-OP (i+1) Pf]
   rw[bU,xM];lia
  have cI:∀(H2:Hp),aa H H2->∀(z:Int),z=((di l:Nat):Int)->(have D:iS:={nx:=λc H'=>∃(d:Option V),c=[O<|.ref ll,O<|.int (((Pf.take (i+1)).map di).sum:Nat),d]/\aa H H'/\((Pf.take (i+1)).map di).sum<=200,rt:=Q}
   if decide (((((Pf.take i).map di).sum:Nat):Int)+z > 200)=true then D.rt (.bl false) H2 else D.nx [O<|.ref ll,O<|.int<|((((Pf.take i).map di).sum:Nat):Int)+z,O<|.ref a] H2):=λH2 g z e=>by
   subst e;refine dq (λh=>?_) λh=>?_
   .let h:=dR h;let:=k H2 g;rw[bO Z]at this;exact this
   .let h:¬(((((Pf.take i).map di).sum:Nat):Int)+((di l:Nat):Int) > 200):=λz=>h (bP z);refine⟨O<|.ref a,?_,g,Z⟩;rw[G,Int.natCast_add]
  refine⟨_,J,CL,o,_,_,p,T.bb,v,J,J,?_⟩;show if decide (V.str (S<|bp l.rule)=V.str (S ň))=true then _ else _;rw[NI];cases j:afW l.rule with
  |some A=>
   have s:=Eo j;rw[s]at q;obtain⟨I,rfl,a1⟩:=q;have R:Å A<=200:=(kC<|(r.rf A (by rw[s];rfl)).2.vJ λB L=>(r.ok B L).2).1;have e:di l=à A:=by unfold di;rw[j]
   refine ba ⟨CL,o,_,_,p,T.bb,x,J,A,I,J,a1,Z,λH2 g=>⟨_,_,J,J,?_⟩⟩;refine ?_;exact cI H2 (b.trans g) _ (by rw[e])
  |none=>
   have e:di l=1:=by unfold di;rw[j]
   refine aU ⟨_,_,J,J,?_⟩;refine ?_;exact cI H' b _ (by rw[e];rfl)
 .rintro c H' ⟨d,rfl,b,m⟩;rw[aK,f.len,l_]at m;let:=k H' b;rw[bP Z]at this;exact this
def adw(T:Tx P w K mg CR CL CP CF CT):Ok P w K mg base 131 "spread_lines" ["lines"] (adr CL):=bh ["lines","found","numbers","line"] T.Zh λH vs Q nd hr h=>by
 obtain⟨ll,as,Pf,rfl,u,s,kn,ks⟩:=h;refine⟨_,az (yw (gy (d_ (yc (adv T) hr (y1 (pv 0))))) (yr cH)) (az (ys 1 nd (bH cW)) (az (ys 2 nd (bH cW)) (az (yo (dm (pv 0)) (yx 3 nd) (bS (pF (yq e_ (yf (pv 3)) cz) (bS (yA (pv 2) (yc (NF T 40) hr (y2 (pv 1) (yf (pv 3)))))) (az (yA (pv 1) (yc (Nd T) hr (y2 (pv 3) (pv 2)))) (bS (yA (pv 2) (cJ za (ye T.cS (pv 1)) aG))))))) (yr (pv 1))))),?_⟩;have nK:=T.nL "kind" gn;have nF:=T.nL "formula" gn;have es:=Ep Pf;refine⟨ll,as,Pf,J,u,s,λH1 L=>?_⟩;by_cases t:Ŀ Pf<=200
 case neg=>exact(decide_eq_false t)▸(kn t H1 L)
 have kk:=ks t;rw[decide_eq_true t];rw[(Lk s t).1]at kk;refine⟨gn,λD nD=>⟨gn,λd M=>?_⟩⟩;have sD:aa H1 (ab H1 D (.ae [])):=aa.ab nD;have sN:aa (ab H1 D (.ae [])) (ab (ab H1 D (.ae [])) d (.ae [])):=aa.ab M;have s0:aa H (ab (ab H1 D (.ae [])) d (.ae [])):=(L.trans sD).trans sN;have N:H D=none:=L.free nD;have Hc:H d=none:=(L.trans sD).free M;have v:D≠d:=λz=>by rw[<-z,aq]at M;cases M
 refine⟨ll,J,⟨_,ao.of (s0 _ _ u.ae)⟩,kh (K:=K) (a:=ll) (xs:=as.map V.ref) (λi a0 H'=>c4 λ(R:Option V)(new:List Nat)(c:Ê)(f:List À)=>a0=[O (.ref ll),O (.ref D),O (.ref d),R]/\aa H H'/\bA CL H' D f c/\H' d=O (.ae (nv new))/\Av H' f d/\w9 Pf i new c/\cj c/\c.length+((Pf.drop i).map di).sum<=200/\lH Pf [] []=lH (Pf.drop i) new c)
  ⟨U,[],[],[],J,s0,⟨by rw[au v,aq];rfl,J,λi l e=>by simp at e⟩,aq,λa ha=>by simp at ha,⟨J,λi n h=>by simp at h⟩,Af,by simpa[es]using t,J⟩ ?_ ?_ ?_⟩
 .rintro i a0 H' _ ⟨R,new,c,f,rfl,g,_⟩;exact ao.of (g _ _ u.ae)
 .rintro i y a0 H' hy ⟨R,new,c,f,rfl,g,j,k,av,x,hQ,hle,r⟩;refine gg λP0 p0=>?_;obtain⟨a,ea,rfl⟩:=NJ hy;obtain⟨l,E,m_⟩:=u.qO ea;obtain⟨bB,pl,ql,sl,fv,g1,g2,g3,g4,g5,_⟩:=m_;have ed:=ads E;rw[ed]at hle r;rw[List.map_cons,List.sum_cons]at hle;obtain⟨Γ,Ε,_⟩:=Lh s E x hQ Z;refine p0 ?_;have gr:=s.jh l (List.mem_of_getElem? E);have lS:=En l new c;have lQ:=hQ.len;have hi:i<200:=by have:=(List.getElem?_eq_some_iff.mp E).1;have:=s.len;lia
  have a1:lH Pf [] []=lH (Pf.drop (i+1)) (new++[(fP l new c).length-1]) (fP l new c):=r;refine⟨CL,bB,_,_,g _ _ g1,T.bb,nK,J,J,?_⟩;show if decide (V.str (S (bp l.rule))=V.str (S ň))=true then _ else _;rw[NI];cases F:afW l.rule with
  |some A=>
   have eR:=Eo F;rw[eR]at g4;obtain⟨fa,rfl,hR⟩:=g4;have aav:=kC ((gr.rf A (by rw[eR];rfl)).2.vJ λB aav=>(gr.ok B aav).2);have ez:di l=à A:=by unfold di;rw[F]
   have eS:fP l new c=ap A c:=by unfold fP;rw[F]
   rw[eS]at Γ Ε a1 lS;refine⟨.inl ⟨J,_,ao.of k⟩,CL,bB,_,_,g _ _ g1,T.bb,nF,J,D,fa,f,c,A,J,j,hR.same g,aav.2.1,aav.1,Z,λH2 im G dZ v2=>?_⟩;have Fy:=G _ _ k (Ne.symm v);have P_:=(v2 d (by rw[k];simp)).2 av;refine⟨d,_,_,J,J,Fy,by rw[dA,x.len,sizeLine_eq];lia,?_⟩;refine⟨_,new++[(ap A c).length-1],ap A c,im,J,Kb.same Hc (Kb.same N g G) Kb.ab,dZ.other Fy P_ v,?_,?_,Γ,Ε,Z,a1⟩
   .rw[aq];unfold nv;rw[List.map_append];rfl
   .exact λb I C dx kd pl ql fv sl e=>by obtain⟨m,_,_,_,_,_,_,e2,_⟩:=dZ.mem I;rw[au (aY e2 Fy nofun)]at e;exact P_ b I _ _ _ _ _ _ _ e
  |none=>
   have eS:fP l new c=c++[⟨ð (λi=>new.getD i 0) l.rule,l.sequent⟩]:=by unfold fP;rw[F]
   have ez:di l=1:=by unfold di;rw[F]
   rw[eS]at Γ Ε a1 lS;refine⟨.inl ⟨J,_,ao.of j.ae⟩,a,d,bB,pl,ql,sl,_,fv,_,λi=>new.getD i 0,J,g _ _ g1,g _ _ g2,lO _,.inr ⟨_,k,λn hn=>?_⟩,λH2 p tR Qa X np Y e1 e2=>?_⟩
   .have:=s.down i l E n hn;have aW:n<new.length:=by rw[x.len];exact this
    refine Fh ?_;show new[n]?=O (new.getD n 0);rw[List.getD_eq_getElem?_getD,List.getElem?_eq_getElem aW];rfl
   have a3:=g.trans X;have a2:=j.same X;have vU:∀{b:À}{o:HO},H b=O o->b≠D/\b≠d:=λe=>⟨bv e N,bv e Hc⟩
   have iO:sl≠D/\sl≠d:=by obtain⟨ys,q,_⟩:=g5;exact vU q
   have k7:gT CL H2 D p ⟨ð (λi=>new.getD i 0) l.rule,l.sequent⟩:=by
    refine⟨tR,Qa,ql,sl,fv,?_,?_,?_,?_,g5.same a3,λz=>(by rw[z,j.ae]at Y;cases Y),(vU g3).1,iO.1⟩
    .show _=O (HO.aO CL tR (lf (S (bp (ð (λi=>new.getD i 0) l.rule))) Qa ql fv sl));rw[Np];exact e1
    .show _=O (HO.ae (nv (Ë (ð (λi=>new.getD i 0) l.rule))));rw[Nl];exact e2
    .show _=O (HO.ae (nv (bR (ð (λi=>new.getD i 0) l.rule))));rw[Nn];exact a3 _ _ g3
    .show FV H2 fv (ad0 (ð (λi=>new.getD i 0) l.rule));rw[No];exact g4.aT (aa.aT a3)
   have iQ:=a2.snoc k7;have kD:Kb D H2 (ab H2 D (.ae (f.map V.ref++[.ref p]))):=Kb.ab;have A8:=kD _ _ (X _ _ k) (Ne.symm v);refine⟨D,_,_,J,J,a2.ae,by rw[a2.f7,sizeLine_eq];lia,?_⟩;refine⟨.inl ⟨J,_,ao.of A8⟩,D,_,J,.inl (ao.of iQ.ae),d,_,_,J,J,A8,by rw[dA,x.len,sizeLine_eq];lia,?_⟩;have Qb:Av (ab H2 D (.ae (f.map V.ref++[.ref p]))) (f++[p]) d:=by refine Av.snoc ((av.keep j (aa.kb X)).keep a2 kD) (kD _ _ e1 (aY e1 a2.ae nofun)) (λz=>(by rw[z,k]at Y;cases Y)) (vU g3).2 iO.2
   refine⟨_,new++[(c++[(⟨ð (λi=>new.getD i 0) l.rule,l.sequent⟩:ê)]).length-1],_,f++[p],J,Kb.same Hc (Kb.same N a3 kD) Kb.ab,iQ.other A8 Qb v,?_,?_,Γ,Ε,Z,a1⟩
   .rw[aq,iQ.f7];unfold nv;rw[List.map_append];congr 3;simp
   .exact λb I C dx kd pl ql fv sl e=>by obtain⟨m,_,_,_,_,_,_,e2,_⟩:=iQ.mem I;rw[au (aY e2 A8 nofun)]at e;exact Qb b I _ _ _ _ _ _ _ e
 .rintro a0 H' ⟨R,new,c,f,rfl,g,j,k,av,x,hQ,hle,r⟩;rw[List.length_map,u.len,List.drop_length]at r;have r:lH Pf [] []=c:=r;exact(kk H' D f g N (by rw[r];exact j))
inductive adx(CL CP:À)(vs:List V)(H:Hp)(Q:VK)(_:XK):Prop|m(pr dx ll:À)(as:List À)(Pf:Ê)(_:vs=[.ref pr])(_:H pr=O (.aO CP dx<|pf ll))(_:bA CL H ll as Pf)(_:cj Pf)(_:(¬Ŀ Pf<=200->∀H':Hp,aa H H'->Q (.bl false) H'))(_:(Ŀ Pf<=200->∀(H':Hp)(D:À)(bg:List À),Kb pr H H'->H D=U->H' pr=O (.aO CP dx<|pf D)->bA CL H' D bg (Ψ Pf)->Q (.bl true) H'))
def ady:cX P w K mg base 132 CP "spread" ["self"] (adx CL CP):=dB ["self"] T.ZF λH vs Q nd c h=>by
 obtain⟨pr,dx,ll,as,Pf,rfl,h1,d,e,kn,ks⟩:=h;refine⟨_,yr<|ym (pv 0) T.cg (Nf T) c<|y1<|yc (adw T) c<|y1<|yf<|pv 0,?_⟩;refine⟨dx,_,h1,J,CP,dx,_,_,h1,T.cg,T.eQ,J,ll,as,Pf,J,d,e,λb H1 a=>?_,λb H1 D f a g i=>?_⟩
 .exact⟨pr,dx,ll,.aQ,J,a _ _ h1,.inl ⟨J,kn b H1 a⟩⟩
 .exact⟨pr,dx,ll,.ref D,J,a _ _ h1,.inr ⟨D,J,ks b _ D f ((aa.kb a).trans Kb.ab) g aq<|i.obj<|a _ _ h1⟩⟩
open PySem.Builtin.Str
theorem NK(b:UInt8):∀t:Ä,(Ú b t).length<=t.length+1/\∀u∈Ú b t,u.length<=t.length
|[]=>⟨by simp[Ú],λu h=>by simp[Ú]at h;simp[h]⟩
|c::r=>by
 have a:=NK b r;unfold Ú;split
 .refine⟨by simp only[aJ];lia,λu h=>?_⟩;rcases a_.mp h with rfl|h
  .simp
  .have:=a.2 u h;simp only[aJ];lia
 .cases e:Ú b r with
  |nil=>exact⟨Gc,λu h=>by simp at h;simp[h]⟩
  |cons l ls=>
   rw[e]at a;refine⟨by have:=a.1;simp only[aJ]at this⊢;lia,λu h=>?_⟩;rcases a_.mp h with rfl|h
   .have:=a.2 l Gc;simp only[aJ];lia
   .have:=a.2 u (by simp[h]);simp only[aJ];lia
inductive adz(vs:List V)(H:Hp)(Q:VK)(_:XK):Prop|m(t:Ä)(_:vs=[.str<|S t])(_:t.length<=100000)(_:(Ϗ t=U->∀H',aa H H'->Q .aQ H'))(_:∀Sq,Ϗ t=O Sq->∀(H':Hp)(sl:À),aa H H'->SeqAt H' sl Sq->Q (.ref sl) H')
def adA:Ok P w K mg base 12 "read_sequent" ["text"] adz:=bh ["text","pieces","formulas","piece","formula"] T.Y2 λH vs Q nd hr h=>by
 obtain⟨t,rfl,hz,kn,ks⟩:=h;refine⟨_,az (yw (yq e_ (uq PySem.F.slot_str_strip PySem.F.type_str_strip Vt (pv 0) cz) cz)<|yr<|bH cW)<|az (ys 1 nd<|JX (pv 0) cz)<|az (yw (yq q0 (ye T.cS<|pv 1)<|bj T.LV)<|yr cH)<|az (yy 2 3 nd (dm<|pv 1) λ_ _ _ _ _=>(yc (E4 T) hr<|y1<|pv 3))<|az (yw (d_<|eF (wA J) J T.xg ϝ<|y1<|yv 4 nd (dm<|pv 2) λ_ _ _ _ _=>(yp kj (pv 4) cH))<|yr cH)<|yr<|pv 2,?_⟩;rw[Ez]at kn ks;refine⟨⟨_,J⟩,S t,S [32],J,J,by rw[bK,bn];lia,J,?_⟩;show if(decide<|V.str (ϵ (S t)<|S [32])=V.str (S []))=true then _ else _;rw[ac0];cases j:(t.all λb=>b==32)with
 |true=>rw[j,aj J]at ks;refine ba ⟨gn,λD p=>ks [] J _ D (aa.ab p) ⟨[],aq,λx f=>by simp at f,J⟩⟩
 |false=>
  rw[j,ai gn]at kn ks;refine aU ⟨⟨_,J⟩,S t,S [44],J,J,J,by rw[bK,bn];lia,λD p=>?_⟩;rw[MM t 44 gn];obtain⟨s,I⟩:=NK 44 t;generalize Ú 44 t=ps at kn ks s I;have k:(ps.map S).map V.str=wV ps:=by unfold wV;rw[cV];rfl
  rw[k];have a2:aa H (ab H D<|.ae (wV ps)):=aa.ab p;refine⟨D,_,J,.inl<|ao.of aq,?_⟩;rw[dI];refine dq (λg=>?_) λg=>?_
  .have g:20<ps.length:=by have:=dR g;lia
   rw[aj g]at kn;exact kn J _ a2
  .have g:¬20<ps.length:=λz=>g (bP Z);rw[ai g]at kn ks;refine⟨D,J,⟨_,ao.of aq⟩,λl nE=>Fu (K:=K) (a:=D) (xs:=wV ps) (R:=λi v H'=>∃u,ps[i]?=O u/\((ß u=U/\v=.aQ)\/c2 λA a=>ß u=O A/\v=.ref a/\a≠l/\bF H' A a)) (by show 3<5;decide) (ao.of aq) (by rw[dI];lia) nE
    (λi v H' m ⟨u,r1,r2⟩ kb=>⟨u,r1,r2.imp id λ⟨A,a,r3,r4,L,M⟩=>⟨A,a,r3,r4,L,kb _ _ M.1 L,M.2⟩⟩) (λi x f H' Q' s' y q=>?_) λH1 vals s1 C N a0=>?_⟩
   .obtain⟨u,d,rfl⟩:=jP f;obtain⟨acc,y⟩:=y;refine⟨u,J,by have:=I u<|bM d;lia,λE m n=>q m _ n ⟨u,d,.inl ⟨E,J⟩⟩,λA eA m a n a1=>q m _ n ⟨u,d,.inr ⟨A,a,eA,J,λz=>?_,a1⟩⟩⟩;have:=n _ _ y;rw[<-z,a1.1]at this;cases this
   rw[dI]at N;have G9:=a2.trans s1;refine⟨l,J,⟨_,ao.of C⟩,λB nB=>lq (K:=K) (a:=l) (xs:=vals) (vals:=(vals.map λv=>decide (v=.aQ)).map V.bl) (by show 4<5;decide) (ao.of C) Gc Z nB (λi x v f c H' Q' s' q=>?_) λH2 aav hB=>?_⟩
   .rw[aR,aR,f]at c;cases c;exact⟨J,q H'<|aa.refl H'⟩
   refine⟨B,vals.map λv=>decide (v=.aQ),J,ao.of hB,?_⟩;have X:=G9.trans aav;cases o:û (ps.map ß)with
   |none=>
    obtain⟨i,hi,Y⟩:=mZ<|LA o;rw[aK]at hi;have c:i<vals.length:=by rw[N];exact hi
    obtain⟨u,d,r⟩:=a0 i vals[i]<|bL c;rw[bL hi]at d;cases d;rw[Ìh]at Y;have E:vals[i]=.aQ:=by
     rcases r with⟨_,e⟩|⟨A,a,e,_⟩
     .exact e
     .rw[Y]at e;exact eG e
    have:((vals.map λv=>decide (v=.aQ)).any id)=true:=l7.mpr ⟨true,bZ.mpr ⟨vals[i],Br c,by rw[E];rfl⟩,J⟩;refine(?_:if((vals.map λv=>decide (v=.aQ)).any id)=true then _ else _);rw[this];exact ba<|kn o H2 X
   |some Sq=>
    have a3:=Lz o;have F:∀(i:Nat)(v:V),vals[i]?=O v->c2 λA a=>Sq[i]?=O A/\v=.ref a/\bF H1 A a:=λi v c=>by
     obtain⟨u,d,r⟩:=a0 i v c;have e2:(ps.map ß)[i]?=O (ß u):=by rw[aR,d];rfl
     rw[a3,aR]at e2;cases es:Sq[i]? with
     |none=>rw[es]at e2;exact eG e2
     |some A=>
      rw[es]at e2;have e2:O A=ß u:=cZ e2;rcases r with⟨e,_⟩|⟨A',a,e,G,_,e5⟩
      .rw[e]at e2;cases e2
      .rw[e]at e2;cases e2;exact⟨A,a,J,G,e5⟩
    have:((vals.map λv=>decide (v=.aQ)).any id)=false:=by rw[Ôc];intro b j;obtain⟨v,c,rfl⟩:=bZ.mp j;obtain⟨i,hi,rfl⟩:=mZ c;obtain⟨A,a,_,e,_⟩:=F i vals[i]<|bL hi;rw[e];simp
    refine(?_:if((vals.map λv=>decide (v=.aQ)).any id)=true then _ else _);rw[this];refine aU (ks Sq o H2 l X<|SeqAt.same ?_ aav);have hl:Sq.length=vals.length:=by have:=cw ő a3;rw[aK,aK]at this;lia
    obtain⟨as,rfl⟩:=uY (vals:=vals) λi v h=>have⟨A,a,_,e,_⟩:=F i v h;⟨a,e⟩;rw[aK]at hl;refine⟨as.zip Sq,?_,λx f=>?_,?_⟩
    .rw[C];have:as.map V.ref=(as.zip Sq).map λx=>V.ref x.1:=by
      have h1:(as.zip Sq).map (λx=>V.ref x.1)=((as.zip Sq).map (·.1)).map V.ref:=by rw[cV];rfl
      rw[h1,Ìi Z]
     rw[this]
    .obtain⟨i,hi,rfl⟩:=mZ f;rw[Ìj]at hi;obtain⟨A,a,k,e2,G⟩:=F i (V.ref (as[i]'Z)) (by rw[aR,bL Z];rfl);rw[bL Z]at k;cases k;cases e2;rw[Ía];exact G
    .rw[Íb Z]
structure Bal0(H:Hp)(d:À)(E:List (Ô×À))(L:List (Bool×Ô)):Prop where
 dict:H d=O (.dK (E.map λx=>((.inr (S x.1):aL),V.ref x.2)))
 nd:(E.map (·.1)).Nodup
 na:(E.map (·.2)).Nodup
 at_:∀x∈E,H x.2=O (.ae [.int (Ğ L false x.1:Nat),.int (Ğ L true x.1:Nat)])
structure Ck(H:Hp)(d:À)(E:List (Ô×À))(L:List (Bool×Ô)):Prop extends Bal0 H d E L where
 mem:∀a,a∈E.map (·.1)↔∃b,(b,a)∈L
 len:E.length<=L.length
theorem A9:∀{E:List (Ô×À)},(E.map (·.1)).Nodup->∀{x:Ô×À},x∈E->bT (E.map λx=>((.inr (S x.1):aL),V.ref x.2)) (.inr (S x.1))=O (.ref x.2)
|[]=>λ_ x h=>by simp at h
|y::E=>λnd x h=>by
 rw[bz]at nd;obtain⟨a,b⟩:=si.mp nd;rcases a_.mp h with rfl|h
 .exact jo J
 .rw[bz,ci,A9 b h];intro z;injection z with z
  have:=gF z;rw[this]at a;exact a<|bZ.mpr ⟨x,h,J⟩
theorem FC:∀{E:List (Ô×À)}{a:Ô},a∉E.map (·.1)->bT (E.map λx=>((.inr (S x.1):aL),V.ref x.2)) (.inr (S a))=U
|[],_,_=>rfl
|y::E,a,h=>by
 rw[bz]at h;rw[bz,ci,FC λz=>h<|a_.mpr<|.inr z];intro z;injection z with z
 exact h<|a_.mpr<|.inl (gF z).symm
def Bal0.same{d:À}{E:List (Ô×À)}(h:Bal0 H d E L)(s:aa H H'):Bal0 H' d E L:=⟨s _ _ h.dict,h.nd,h.na,λx a=>s _ _<|h.at_ x a⟩
def NM{a:Ô}(h:¬∃b,(b,a)∈L)(n):Ğ L n a=0:=by unfold Ğ;rw[ON,List.filter_eq_nil_iff];intro x c z;simp only[aS,jV]at z;exact h ⟨x.1,z.2▸c⟩
def Bal0.new{d p:À}{E:List (Ô×À)}{a:Ô}(h:Bal0 H d E L)(e:a∉E.map (·.1))(f:¬∃b,(b,a)∈L)(g:H p=O (.ae [.int 0,.int 0]))(i:p∉E.map (·.2)):Bal0 (ab H d (.dK (de (E.map λx=>((.inr (S x.1):aL),V.ref x.2)) (.inr (S a)) (.ref p)))) d (E++[(a,p)]) L:=by
 refine⟨?_,?_,?_,λx c=>?_⟩
 .rw[aq,zt _<|FC e,bU];rfl
 .exact bU▸zF h.nd e
 .exact bU▸zF h.na i
 .rcases d6.mp c with c|c
  .rw[au<|aY (h.at_ x c) h.dict nofun];exact h.at_ x c
  .have:x=(a,p):=by simpa using c
   subst this;rw[au<|aY g h.dict nofun,g,NM f,NM f];rfl
def Bal0.adB{d:À}{E:List (Ô×À)}{x:Ô×À}(n)(h:Bal0 H d E L)(a:x∈E):Bal0 (ab H x.2 (.ae [.int (Ğ (L++[(n,x.1)]) false x.1:Nat),.int (Ğ (L++[(n,x.1)]) true x.1:Nat)])) d E (L++[(n,x.1)]):=by
 refine⟨by rw[au<|aY h.dict (h.at_ x a) nofun];exact h.dict,h.nd,h.na,λy b=>?_⟩;obtain⟨i,hi,rfl⟩:=mZ a;obtain⟨j,c,rfl⟩:=mZ b;by_cases e:i=j
 .subst e;exact aq
 .let e2:E[j].2≠E[i].2:=λz=>e (DC h.na (by rw[aR,bL hi];exact cw O z.symm) (by rw[aR,bL c];rfl));let f:¬E[i].1=E[j].1:=λz=>e (DC h.nd (by rw[aR,bL hi];exact cw O z) (by rw[aR,bL c];rfl));rw[au e2,h.at_ _ b,Ao,Ao,ai λz=>f z.2,ai λz=>f z.2];rfl
def adC{k:aL}{z:V}{a b:Hp}(aav:V->Hp->Prop)(h1:∀v,bT ag k=O v->aav v a)(h2:bT ag k=U->aav z b)(h:∀v G,aav v G->Q v G):(∀v,bT ag k=O v->Q v a)/\(bT ag k=U->Q z b):=⟨λv e=>h _ _<|h1 v e,λe=>h _ _<|h2 e⟩
def adD{n}{a:Ô}(h:Õ a=true):xi (aw n a)=a:=by
 unfold xi;cases n with
 |true=>rfl
 |false=>rw[ai λz=>by let:=(rI h).mp z;cases this];rfl
def adE{n}{a:Ô}(h:Õ a=true):1<=(aw n a).length/\(aw n a).length<=1000:=by
 have:1<=a.length/\a.length<=12:=by
  unfold Õ at h;simp only[aS,du]at h;refine⟨?_,h.2.1⟩;cases a with
  |nil=>simp at h
  |cons _ _=>simp
 unfold aw;split
 .simp;omega
 .omega
inductive adF(vs:List V)(H:Hp)(Q:VK)(_:XK):Prop|m(sl Sq:_)(_:vs=[.ref sl])(_:SeqAt H sl Sq)(_:Sq.length<=100)(_:(∀A∈Sq,Å A<=1000))(_:∀H' d E,aa H H'->H d=U->Ck H' d E (ć Sq)->Q (.ref d) H')
def adG(T:Tx P w K mg CR CL CP CF CT):Ok P w K mg base 3 "balance_of" ["sequent"] adF:=bh ["sequent","counts","formula","atom","pair"] T.Y3 λH vs Q nd hr h=>by
 obtain⟨sl,Sq,rfl,⟨xs,qj,vP,rfl⟩,hz,hn,k⟩:=h;rw[aK]at hz;refine⟨_,az (ys 1 nd zx) (az (yo (dm (pv 0)) (yx 2 nd) (bS (yo (dm (yc (L5 T) hr (y1 (pv 2)))) (yx 3 nd) (az (ys 4 nd (Vx (pv 1) (yc (L4 T) hr (y1 (pv 3))) (bH (y2 aG aG)) (by constructor<;>rfl))) (bS (Ri (pv 4) (j_ (d_ (yc (ES T) hr (y1 (pv 3)))) aG aG) Vy aG uc C8)))))) (yr (pv 1))),?_⟩;intro d nd;refine⟨sl,J,⟨_,ao.of (aa.ab nd _ _ qj)⟩,kh (xs:=xs.map λx=>V.ref x.1) (λi o H'=>c4 λR g l E=>o=[O (.ref sl),O (.ref d),R,g,l]/\aa H H'/\Ck H' d E (ć ((xs.take i).map (·.2)))/\(∀x∈E,H x.2=U)/\(ć ((xs.take i).map (·.2))).length<=1000*i)
  ⟨U,U,U,[],J,aa.ab nd,⟨⟨aq,F4,F4,λx c=>by simp at c⟩,λa=>by simp[ć],aN _⟩,λx c=>by simp at c,by simp[ć]⟩ ?_ ?_ ?_⟩
 .rintro i o H' _ ⟨R,g,l,E,rfl,D,_⟩;exact ao.of (D _ _ qj)
 .rintro i y o H' r ⟨R,g,l,E,rfl,D,s,hE,hlen⟩;rw[aR]at r;cases ex:xs[i]? with
  |none=>rw[ex]at r;exact eG r
  |some x=>
   rw[ex]at r;cases r;have c:=vP x (bM ex);have hi:i<xs.length:=(b9.mp ex).1;have hnx:=hn x.2 (bZ.mpr ⟨x,bM ex,J⟩);have eL:ć ((xs.take (i+1)).map (·.2))=ć ((xs.take i).map (·.2))++Ĭ x.2:=by rw[gC ex];unfold ć;simp
   rw[eL];generalize ć ((xs.take i).map (·.2))=L at s hlen;have He:(Ĭ x.2).length<=1000:=by
    rw[iW];have h1:ï x.2<=Å x.2:=by have:=js c.2;have a2:=cw ő this;rw[aK,iW]at a2;rw[<-a2,<-ee];exact mU _ _
    lia
   refine⟨x.1,wd x.2,J,(c.same D).iK,by rw[ee];lia,λH1 u s1 Qe a1=>?_⟩;rw[js c.2]at a1;have aF:=ky c.2;generalize Ĭ x.2=lv at He a1 aF;have gw:=D.trans s1;refine⟨u,J,⟨_,ao.of a1⟩,kh (xs:=wV (lv.map λx=>aw x.1 x.2)) (λj o A=>c3 λg l E=>o=[O (.ref sl),O (.ref d),O (.ref x.1),g,l]/\aa H A/\A u=O (.ae (wV (lv.map λx=>aw x.1 x.2)))/\Ck A d E (L++lv.take j)/\(∀x∈E,H x.2=U/\x.2≠u))
    ⟨g,l,E,J,gw,a1,⟨by simpa using s.toBal0.same s1,by simpa using s.mem,by simpa using s.len⟩,λx c=>⟨hE x c,λz=>by rw[<-z,s.at_ x c]at Qe;cases Qe⟩⟩ ?_ ?_ ?_⟩
   .rintro j o A _ ⟨g,l,E,rfl,_,q,_⟩;exact ao.of q
   .rintro j y o A r ⟨g,l,E,rfl,M,q,f,aav⟩;obtain⟨t,N,rfl⟩:=jP r;rw[aR]at N;cases ev:lv[j]? with
    |none=>rw[ev]at N;cases N
    |some na=>
     obtain⟨n,a⟩:=na;rw[ev]at N;cases N;have X:Õ a=true:=aF (n,a) (bM ev);obtain⟨a2,l2⟩:=adE (n:=n) X;have eT:L++lv.take (j+1)=(L++lv.take j)++[(n,a)]:=by rw[gC ev,jc]
     rw[eT];have hLl:(L++lv.take j).length<=200000:=by rw[bw,eh];lia
     generalize L++lv.take j=L' at f hLl;refine⟨d,J,.inl ⟨_,.inl f.dict⟩,aw n a,J,a2,l2,?_⟩;rw[adD X];refine⟨Ob,λY il=>?_⟩;have F:aa A (ab A Y (.ae [.int 0,.int 0])):=aa.ab il;have a3:=f.toBal0.same F;refine⟨_,.inr (S a),a3.dict,J,by rw[aK,bn];have:=f.len;lia,?_⟩;refine adC (λv G=>c2 λp B=>v=.ref p/\Bal0 G d B L'/\(a,p)∈B/\aa H G/\G u=O (.ae (wV (lv.map λx=>aw x.1 x.2)))/\(∀x∈B,H x.2=U/\x.2≠u)/\(∀b,b∈B.map (·.1)↔b=a\/b∈E.map (·.1))/\B.length<=E.length+1) (λv C=>?_) (λC=>?_) ?_
     .by_cases e:a∈E.map (·.1)
      .obtain⟨⟨a',p⟩,he,rfl⟩:=bZ.mp e;have:=A9 f.nd he;rw[this]at C;cases C;exact⟨p,E,J,a3,he,M.trans F,F _ _ q,aav,λb=>⟨.inr,λz=>z.elim (λz=>z▸e) id⟩,Z⟩
      .rw[FC e]at C;exact eG C
     .have e:a∉E.map (·.1):=λz=>by obtain⟨⟨a',p⟩,he,rfl⟩:=bZ.mp z;rw[A9 f.nd he]at C;cases C
      refine⟨Y,E++[(a,Y)],J,a3.new e (λz=>e ((f.mem a).mpr z)) aq (λz=>?_),Gc,Kb.same nd (M.trans F) Kb.ab,?_,λx c=>?_,λb=>?_,Gc⟩
      .obtain⟨y,r,rfl⟩:=bZ.mp z;rw[f.at_ y r]at il;cases il
      .exact au (aY (F _ _ q) a3.dict nofun)▸F _ _ q
      .rcases d6.mp c with c|c
       .exact aav x c
       .have:x=(a,Y):=by simpa using c
        subst this;exact⟨M.free il,λz=>by rw[<-z]at q;rw[q]at il;cases il⟩
      .rw[bU,d6];simp;exact Or.comm
     rintro v G ⟨p,B,rfl,hG,Co,sG,gal,Hf,oj,hlE⟩;have gp:=hG.at_ (a,p) Co;have fin:∀I,Bal0 I d B (L'++[(n,a)])->Kb p G I->c3 λg l E=>[O (V.ref sl),O (.ref d),O (.ref x.1),O (.str (S (aw n a))),O (.ref p)]=[O (.ref sl),O (.ref d),O (.ref x.1),g,l]/\aa H I/\I u=O (.ae (wV (lv.map λx=>aw x.1 x.2)))/\Ck I d E (L'++[(n,a)])/\(∀x∈E,H x.2=U/\x.2≠u):=λI vV kb=>
      ⟨_,_,B,J,Kb.same (Hf _ Co).1 sG kb,kb _ _ gal (cB (Hf _ Co).2),⟨vV,λb=>by
       rw[oj b];constructor
       .rintro(rfl|hb)
        .exact⟨n,Gc⟩
        .obtain⟨m,e⟩:=(f.mem b).mp hb;exact⟨m,by simp[e]⟩
       .intro⟨m,e⟩;rcases d6.mp e with e|e
        .exact .inr ((f.mem b).mpr ⟨m,e⟩)
        .left;simp at e;exact e.2,by have:=f.len;rw[bw];simp;lia⟩,Hf⟩
     have a0:=hG.adB n Co;rw[Ao,Ao]at a0;refine⟨aw n a,J,a2,l2,?_⟩;show ite _ _ _;cases n with
     |true=>refine ak (bP ((rI X).mpr J)) ⟨_,_,ao.of gp,J,_,_,J,J,p,_,_,1,J,J,gp,J,?_⟩;refine fin _ ?_ Kb.ab;rw[ai Gc,aj Gc]at a0;exact a0
     |false=>refine al (bO (λz=>by have:=(rI X).mp z;cases this)) ⟨_,_,ao.of gp,J,_,_,J,J,p,_,_,0,J,J,gp,J,?_⟩;refine fin _ ?_ Kb.ab;rw[aj Gc,ai Gc]at a0;exact a0
   .rintro o A ⟨g,l,E,rfl,M,q,f,aav⟩;rw[dI,aK,l_]at f;exact⟨_,_,_,E,J,M,f,λx c=>(aav x c).1,by rw[bw];lia⟩
 .rintro o H' ⟨R,g,l,E,rfl,D,s,hE,_⟩;rw[aK,l_]at s;exact(k H' d E D nd s)
def adH{d:À}{o:Ó}{vals:List V}(hk:k<z.length)(l:H d=O (.cn o (.dK ag)))(n:ag.length=vals.length)(hz:ag.length<=1000000)(r:H D=U)(he:∀(i:Nat)(q:aL×V)(v:V),ag[i]?=O q->vals[i]?=O v->∀H' (Q:VK),aa H H'->(∀a,aa H' a->Q v a)->te ((bo z [k]).set k (O (L2.kV q.1))) H' Q) (E:∀H',aa H H'->H' D=O (.ae vals)->Qd H'):∃aav:Nat->Nat->Hp->Prop,(∃m,aav 0 m (ab H D (.ae [])))/\∀i m H',aav i m H'->((x9 d o ag).stop i H'/\Qd H')\/((x9 d o ag).go i H'/\∃c:Hp->Prop,(∀H',c H'->∃t,t<m/\aav (i+1) t H')/\∀x H2,(x9 d o ag).fU i H' x H2->fu k x (bo z [k]) H2 λf H2=>bo f [k]=bo z [k]/\gA f H2 λb u=>
    if b=true then te f u λy w=>∃acc,w D=O (.ae acc)/\acc.length<É/\c (ab w D (.ae (acc++[y])))else c u):=by
 refine⟨λi m H'=>m=ag.length-i/\i<=ag.length/\aa H H'/\∃acc:List V,H' D=O (.ae acc)/\acc.length=i/\∀(j:Nat)(v:V),acc[j]?=O v->vals[j]?=O v,⟨ag.length,Gc,cM _,aa.ab r,[],aq,J,λj v h=>by simp at h⟩,?_⟩;rintro i m H' ⟨rfl,hi,p⟩;by_cases g:i<ag.length
 .refine .inr ⟨⟨p.1 _ _ l,g⟩,λH'=>aa H H'/\∃acc:List V,H' D=O (.ae acc)/\acc.length=i+1/\∀(j:Nat)(v:V),acc[j]?=O v->vals[j]?=O v,λH' F=>⟨ag.length-(i+1),Z,J,g,F⟩,λy H2 a1=>?_⟩;obtain⟨rfl,q,v,A,rfl⟩:=a1;have B:i<vals.length:=by rw[<-n];exact g
  refine zQ (xs:=ag.map λq=>L2.kV q.1) (R:=λi v _=>vals[i]?=O v) hk (by simpa using hz) r (λ_ _ _ _ h _=>h) (x:=L2.kV q) (by rw[aR,A];rfl) (λH' Q s G=>?_) p;exact he i (q,v) vals[i] A (by simp[B]) H' Q s λa I=>G a vals[i] I (by simp[B])
 .have e:i=ag.length:=Z;have⟨C,acc,h1,h2,a0⟩:=p;rw[zR (h2.trans<|e.trans n) a0]at h1;exact .inl ⟨⟨C _ _ l,Z⟩,E H' C h1⟩
def ff(Α dn:À):List (Ã×V):=[("words",.ref Α),("done",.ref dn)]
def iR(A:Â):List aL:=(wd A).map λw=>(.inr (S w):aL)
def FD(A:Â):(iR A).map L2.kV=wV (wd A):=by unfold iR wV;rw[cV];rfl
def adI(b:aE A=true)(c:aE B=true)(h:iR A=iR B):A=B:=by
 refine Ea b c ?_;have e:wV (wd A)=wV (wd B):=by rw[<-FD,<-FD,h]
 unfold wV at e;generalize wd A=l at e;generalize wd B=m at e;induction l generalizing m with
 |nil=>
  cases m with
  |nil=>rfl
  |cons _ _=>cases e
 |cons x l d=>
  cases m with
  |nil=>cases e
  |cons y m=>
   rw[bz,bz]at e;injection e with a e2
   injection a with a
   rw[gF a,d m e2]
def kM(a:Ô)(G A:Â):Option Formula:=if Ø (Ò a G A)=true then O (Ò a G A)else U
structure gU(CF:À)(H:Hp)(fl Α dn:À)(a:Ô)(G:Â)(ag:List (List aL×V)):Prop where
 ob:∃dx,H fl=O (.aO CF dx (ff Α dn))
 iK:c2 λga gb=>H Α=O (.dK [(.inr (S a),.ref ga),(.inr (S (126::a)),.ref gb)])/\bF H G ga/\bF H (Æ G) gb
 qS:H dn=O (.dT ag)
 val:∀A v,aE A=true->bT ag (iR A)=O v->FV H v (kM a G A)
def gU.same{a:Ô}{ag:List (List aL×V)}(h:gU CF H fl Α dn a G ag)(s:aa H H'):gU CF H' fl Α dn a G ag:=by obtain⟨⟨dx,h1⟩,⟨b,gb,h2,c,d⟩,f,g⟩:=h;exact⟨⟨dx,s _ _ h1⟩,⟨b,gb,s _ _ h2,c.same s,d.same s⟩,s _ _ f,λA v o e=>(g A v o e).aT<|aa.aT s⟩
def FV.dt{ag:List (List aL×V)}(k:Kb dn H H')(b:H dn=O (.dT ag)):∀{o:Option Â},FV H v o->FV H' v o
|none,h=>h
|some _,⟨a,e,h⟩=>⟨a,e,k _ _ h.1<|aY h.1 b nofun,h.2⟩
def bF.dt{ag:List (List aL×V)}(h:bF H A a)(k:Kb dn H H')(b:H dn=O (.dT ag)):bF H' A a:=⟨k _ _ h.1<|aY h.1 b nofun,h.2⟩
def gU.g_{a:Ô}{ag:List (List aL×V)}(h:gU CF H fl Α dn a G ag)(c:aE A=true)(d:FV H v (kM a G A)):gU CF (ab H dn (.dT (de ag (iR A) v))) fl Α dn a G (de ag (iR A) v):=by
 obtain⟨⟨dx,h1⟩,⟨f,gb,h2,g,i⟩,b,j⟩:=h;let kb:Kb dn H (ab H dn<|.dT<|de ag (iR A) v):=Kb.ab;refine⟨⟨dx,kb _ _ h1<|aY h1 b nofun⟩,⟨f,gb,kb _ _ h2<|aY h2 b nofun,g.dt kb b,i.dt kb b⟩,aq,λB u o e=>?_⟩;rw[wH]at e;by_cases z:iR B=iR A
 .rw[aj z]at e;cases e;rw[adI o c z];exact d.dt kb b
 .rw[ai z]at e;exact(j B u o e).dt kb b
def gU.list{a:Ô}{ag:List (List aL×V)}(h:gU CF H fl Α dn a G ag)(b:H D=O (.ae xs)):gU CF (ab H D o) fl Α dn a G ag:=by obtain⟨⟨dx,h1⟩,⟨g,gb,h2,c,d⟩,f,i⟩:=h;let kb:Kb D H (ab H D o):=Kb.ab;refine⟨⟨dx,kb _ _ h1<|aY h1 b nofun⟩,⟨g,gb,kb _ _ h2<|aY h2 b nofun,⟨kb _ _ c.1<|aY c.1 b nofun,c.2⟩,⟨kb _ _ d.1<|aY d.1 b nofun,d.2⟩⟩,kb _ _ f<|aY f b nofun,λA v o e=>(i A v o e).kb kb b⟩
def adJ{a:Ô}{c:À}(d:bF H G c)(e:bF H (Æ G) gb)(x:Ä)(f:H tp=O (.be (wV [x]))):∃b,(bT [((.inr (S a):aL),V.ref c),(.inr (S (126::a)),.ref gb)] (.inr (S x))).getD (.ref tp)=.ref b/\H b=O (.be (wV (fw a G x))):=by
 have ne:∀y:Ä,¬x=y->¬((.inr (S y):aL)=.inr (S x)):=λy h z=>h (by injection z with z;exact(gF z).symm);unfold fw;by_cases h1:x=a
 .subst h1;rw[aj J];exact⟨c,by rw[jo J];rfl,d.1⟩
 .rw[ai h1,ci<|ne _ h1];by_cases h2:x=126::a
  .subst h2;rw[aj J];exact⟨gb,by rw[jo J];rfl,e.1⟩
  .rw[ai h2,ci<|ne _ h2];exact⟨tp,J,f⟩
def NN(x:Ä)(l:List Ä):d8 (.str (S x)) (wV l)=decide (x∈l):=by
 unfold d8 wV;rw[Bi];apply sf.mpr;rw[l7,du];constructor
 .rintro⟨y,a,e⟩;let e:decide (S y=S x)=true:=e;rw[<-gF (dR e)];exact a
 .intro h;exact⟨x,h,bP (rfl:S x=S x)⟩
def NO(l:List Ä):(wV l).all my=true:=by unfold wV;rw[oJ,dQ];intro n _;rfl
def NP{a:Ô}(b:Å G<=200)(x:Ä):(fw a G x).length<=200:=by
 unfold fw;split
 .rw[ee];exact b
 .split
  .rw[ee,fN];exact b
  .simp
theorem FE{a:Ô}{G:Â}(b:Å G<=200):∀l:List Ä,(l.flatMap (fw a G)).length<=200*l.length
|[]=>aN _
|x::l=>by have:=NP (a:=a) b x;have:=FE (a:=a) b l;rw[l8,bw,aJ];lia
inductive adK(CF:À)(vs:List V)(H:Hp)(Q:VK)(_:XK):Prop|m(fl dx ga:À)(a:Ô)(G:Â)(_:vs=[.ref fl,.str<|S a,.ref ga])(_:H fl=O (.aO CF dx []))(_:Õ a=true)(_:bF H G ga)(_:Å G<=200)(_:∀(H':Hp)(Α dn:À),H Α=U->H dn=U->gU CF H' fl Α dn a G []->(∀b o,H b=O o->b≠fl->H' b=O o)->Q .aQ H')
inductive adL(CF:À)(vs:List V)(H:Hp)(Q:VK)(_:XK):Prop|m(fl Α dn fa:À)(a:Ô)(G A:Â)(ag:List (List aL×V))(_:vs=[.ref fl,.ref fa])(_:gU CF H fl Α dn a G ag)(_:Õ a=true)(_:Å G<=200)(_:bF H A fa)(_:Ø A=true)(_:∀(H':Hp)(v:V),aa H H'->FV H' v (kM a G A)->Q v H')
inductive adM(CF:À)(vs:List V)(H:Hp)(Q:VK)(_:XK):Prop|m(fl Α dn fa:À)(a:Ô)(G A:Â)(ag:List (List aL×V))(_:vs=[.ref fl,.ref fa])(_:gU CF H fl Α dn a G ag)(_:Õ a=true)(_:Å G<=200)(_:bF H A fa)(_:Ø A=true)(_:ag.length<=1000000)(_:∀(H':Hp)(v:V)(lU:List (List aL×V)),Kb dn H H'->gU CF H' fl Α dn a G lU->lU.length<=ag.length+1->FV H' v (kM a G A)->Q v H')
def adN:qH P w K mg base 5 "Filling" CF ["self","name","formula"] (adK CF):=yC ["self","name","formula","plain","turned"] T.YX λH vs Q nd n h=>by
 obtain⟨fl,dx,c,a,G,rfl,h1,N,B,X,k⟩:=h;refine⟨_,az (ys 3 nd<|yc (ER T) n<|y1<|pv 1)<|az (ys 4 nd<|yc (rL T) n<|y1<|pv 3)<|az (yu (pv 0)<|Js (Dq (yt (pv 3) aG) (pv 2)<|Dq (yt (pv 4) aG) (yc (rL T) n<|y1<|pv 2) Jp) J J (λz=>nomatch z) gn)<|bS<|yu (pv 0) S9,?_⟩;refine⟨a,J,N,λH1 C p Y jl=>?_⟩;refine⟨.atom false a,C,J,jl,by simp[Å],λH2 ta i a0 q=>?_⟩;intro Α D;have j:aa H2 (ab H2 Α (.dK [])):=aa.ab D;refine⟨_,_,aV.of<|j _ _<|i _ _ jl.1,(rfl:gX _ _=O (V.str<|S a)),_,_,aV.of<|j _ _ q.1,(rfl:gX _ _=O (V.str<|S (126::a))),G,c,J,B.same<|(p.trans i).trans j,Z,λl gb E a3 r=>?_⟩;have F:aa H l:=((p.trans i).trans j).trans E;have I:l Α=O (.dK []):=E _ _ aq;have s:H Α=none:=(p.trans i).free D;refine⟨I,[(.inr<|S a,.ref c),(.inr<|S (126::a),.ref gb)],J,by show 2<=15;decide,?_⟩;have R:pV [] [((.inr (S a):aL),V.ref c),(.inr<|S (126::a),.ref gb)]=[(.inr<|S a,.ref c),(.inr<|S (126::a),.ref gb)]:=by
  show de (de [] (ċ (S a):aL)<|.ref c) (ċ<|S (126::a)) (.ref gb)=_;rw[zt _ (uk),zt]
  .rfl
  .rw[vg,ci]
   .rfl
   .intro z;injection z with z
    have:=cw ő<|gF z;simp at this
 rw[R];have a2:fl≠Α:=bv h1 s;have m:(ab l Α<|.dK [((.inr (S a):aL),V.ref c),(.inr<|S (126::a),.ref gb)]) fl=O (.aO CF dx []):=by rw[au a2];exact F _ _ h1
 generalize t:ab l Α (.dK [((.inr (S a):aL),V.ref c),(.inr<|S (126::a),.ref gb)])=f at m;have u:aa H f:=by rw[<-t];exact Kb.same s F Kb.ab
 have a1:f Α=O (.dK [(.inr<|S a,.ref c),(.inr<|S (126::a),.ref gb)]):=by rw[<-t];exact aq
 have x:bF f (Æ G) gb:=by rw[<-t];exact⟨by rw[au<|aY r.1 I nofun];exact r.1,r.2⟩
 refine⟨CF,dx,_,m,T.kG,T.GP,by decide,?_⟩;intro dn g;have L:f dn=none:=by
  by_cases z:dn=fl
  .rw[z,aq]at g;cases g
  .rw[au z]at g;exact g
 have M:fl≠dn:=λz=>by rw[<-z,aq]at g;cases g
 refine⟨CF,dx,_,by rw[au M,aq],T.kG,T.yH,by show 1<1000;decide,?_⟩;rw[show c_ "done" (.ref dn) (c_ "words" (.ref Α) [])=ff Α dn from J];have d:∀{b:À}{o:HO},f b=O o->b≠fl->(ab (ab (ab f fl<|.aO CF dx<|c_ "words" (.ref Α) []) dn<|.dT []) fl<|.aO CF dx<|ff Α dn) b=O o:=λ{b o} e ne=>by rw[au ne,au<|bv e L,au ne];exact e
 have y:bF f G c:=B.same u;refine k _ Α dn s (u.free L) ⟨⟨dx,aq⟩,⟨c,gb,d a1<|cB a2,⟨d y.1<|aY y.1 m nofun,y.2⟩,⟨d x.1<|aY x.1 m nofun,x.2⟩⟩,by rw[au<|cB M,aq],λA v _ e=>by exact eG e⟩ λb o e aav=>d (u _ _ e) aav
def adO(T:Tx P w K mg CR CL CP CF CT):cX P w K mg base 3 CF "newly_filled" ["self","formula"] (adL CF):=dB ["self","formula","word","grown"] T.ZC λH vs Q nd N h=>by
 obtain⟨fl,Α,dn,j,a,G,A,ag,rfl,hF,E,F,d,a0,k⟩:=h;refine⟨_,az (yw (gy (d_ (eF (wA J) J T.xg ϝ (y1 (Jx (yv 2 nd (TC (yf (pv 0))) (λ_ _ _ _ _=>(yp (UP (K:=K) J) (pv 2) (pv 1))))))))) (yr (pv 1))) (az (ys 3 nd (bH cW)) (az (yo (wg (pv 1)) (yx 2 nd) (bS (gN (pO jz O1 O2 Vq (pv 3) (y1 (Ju (jp N) (yf (pv 0)) (pv 2) (pL (y1 (pv 2))) (by constructor<;>rfl))))))) (yr (j_ (d_ (yc (EV T) N (y1 (pv 3)))) (rl IQ J T.LL boot_tuple (y1 (pv 3))) cH)))),?_⟩;have⟨⟨dx,h1⟩,⟨p,gb,h2,I,h4⟩,h5,h6⟩:=id hF;have nb:=kC a0;refine⟨Α,_,h2,dO,λod=>?_⟩;have u:∀{b:À}{o:HO},H b=O o->b≠Α->(ab H Α (.cn od (.dK [((.inr (S a):aL),V.ref p),(.inr (S (126::a)),.ref gb)]))) b=O o:=λe ne=>by rw[au ne];exact e
 have vW:=aY h1 h2 nofun;have R:=aY d.1 h2 nofun;refine⟨CF,dx,_,_,u h1 vW,T.kG,T.GP,J,Α,od,J,.inl ⟨_,aq,λD nD=>adH (vals:=[.bl (decide (a∈wd A)),.bl (decide ((126::a)∈wd A))]) (by show 2<4;decide) aq J (by show 2<=1000000;decide) nD (λi q v l f H' a1 s' aav=>?_) (λH' s' X=>?_)⟩⟩
 .match i,l,f with
  |0,l,f=>
   cases l;cases f;refine⟨j,_,J,.inr (aV.of (s' _ _ (u d.1 R))),J,NO _,?_⟩;show a1 (.bl (d8 (.str (S a)) (wV (wd A)))) H';rw[NN];exact aav H' (aa.refl H')
  |1,l,f=>
   cases l;cases f;refine⟨j,_,J,.inr (aV.of (s' _ _ (u d.1 R))),J,NO _,?_⟩;show a1 (.bl (d8 (.str (S (126::a))) (wV (wd A)))) H';rw[NN];exact aav H' (aa.refl H')
  |n+2,l,f=>simp at f
 have Y:H' Α=O (.cn od (.dK [(.inr (S a),.ref p),(.inr (S (126::a)),.ref gb)])):=s' _ _ aq;refine⟨Y,?_⟩;have r:aa H (ab H' Α (.dK [(.inr (S a),.ref p),(.inr (S (126::a)),.ref gb)])):=λb o e=>by
  by_cases z:b=Α
  .subst z;rw[h2]at e;cases e;exact aq
  .rw[au z];exact s' _ _ (u e z)
 have a3:(ab H' Α (.dK [((.inr (S a):aL),V.ref p),(.inr (S (126::a)),.ref gb)])) D=O (.ae [.bl (decide (a∈wd A)),.bl (decide ((126::a)∈wd A))]):=by rw[au (aY X Y nofun)];exact X
 generalize ab H' Α (.dK [((.inr (S a):aL),V.ref p),(.inr (S (126::a)),.ref gb)])=H1 at r a3;refine⟨D,[decide (a∈wd A),decide ((126::a)∈wd A)],J,ao.of a3,?_⟩;by_cases hw:a∉wd A/\(126::a)∉wd A
 .rw[bO hw.1,bO hw.2];refine(k H1 _ r ?_);have e:Ò a G A=A:=Wx E I.2 d.2 hw.1 hw.2;unfold kM;rw[e,aj a0];exact⟨j,J,d.same r⟩
 .have e:([decide (a∈wd A),decide ((126::a)∈wd A)].any id)=true:=by
   by_cases z:a∈wd A
   .simp[z]
   .have:(126::a)∈wd A:=Decidable.byContradiction λy=>hw ⟨z,y⟩;simp[this]
  rw[e];refine⟨gn,λg Cr=>?_⟩;have s2:aa H (ab H1 g (.ae [])):=r.trans (aa.ab Cr);have hlw:(wd A).length<=200:=by rw[ee];exact nb.1
  have a2:H g=none:=r.free Cr;refine⟨j,J,⟨_,aV.of (s2 _ _ d.1)⟩,Rt (K:=K) (a:=j) (xs:=wV (wd A)) (λi B H'=>∃C:Option V,B=[O (.ref fl),O (.ref j),C,O (.ref g)]/\aa H H'/\H' g=O (.ae (wV (((wd A).take i).flatMap (fw a G)))))
   ⟨U,J,s2,aq⟩ ?_ ?_ ?_⟩
  .rintro i B H' _ ⟨C,rfl,c,_⟩;exact aV.of (c _ _ d.1)
  .rintro i y B H' hy ⟨C,rfl,c,m⟩;obtain⟨x,ex,rfl⟩:=jP hy;have hi:i<(wd A).length:=(b9.mp ex).1;have hlen:=FE (a:=a) F ((wd A).take i);have Cs:=NP (a:=a) F x;rw[eh]at hlen;refine⟨.inl ⟨J,_,ao.of m⟩,CF,dx,_,_,c _ _ h1,T.kG,T.GP,J,Α,J,.inl ⟨_,.inl (c _ _ h2)⟩,Ge,λtp qQ=>?_⟩;have s:aa H' (ab H' tp (.be [.str (S x)])):=aa.ab qQ;refine⟨_,fE.k (k:=ċ (S x)) (s _ _ (c _ _ h2)),?_⟩;obtain⟨b,eb,GI⟩:=adJ (a:=a) (tp:=tp) ((I.same c).same s) ((h4.same c).same s) x aq;rw[eb];refine⟨g,b,_,_,J,J,s _ _ m,GI,by rw[dI,dI,bn];lia,?_⟩;refine⟨_,J,Kb.same a2 (c.trans s) Kb.ab,?_⟩;rw[aq,gC ex,vn];unfold wV;rw[bU];simp
  .rintro B H' ⟨C,rfl,c,m⟩;rw[dI,l_,<-jN E d.2]at m;have aF:aE (Ò a G A)=true:=jt I.2 d.2;have L:Å (Ò a G A)<=200000:=by have:=FE (a:=a) F (wd A);rw[<-jN E d.2,ee]at this;lia
   refine⟨g,Ò a G A,J,.inl (ao.of m),aF,L,λH2 M=>?_⟩;unfold kM at k;cases vF:Ø (Ò a G A)with
   |true=>rw[vF,aj J]at k;refine⟨g,_,J,.inl ⟨ao.of (M _ _ m),λt nt=>k _ _ ((c.trans M).trans (aa.ab nt)) ⟨t,J,aq,aF⟩⟩⟩
   |false=>rw[vF,ai gn]at k;exact(k _ _ (c.trans M) J)
def NQ:cX P w K mg base 4 CF "filled" ["self","formula"] (adM CF):=dB ["self","formula"] T.ZB λH vs Q nd f h=>by
 obtain⟨fl,Α,dn,i,a,G,A,ag,rfl,g,n,o,c,p,x,k⟩:=h;refine⟨_,az (yw (pw<|Jn (jp f) (pv 1)<|yf<|pv 0)<|bS<|wI (jp f) (yf<|pv 0) (pv 1) (ym (pv 0) T.kG (adO T) f<|y1<|pv 1) J)<|yr<|Dn (jp f) (yf<|pv 0) (pv 1) λ_ _=>J,?_⟩;refine gg λP0 p0=>?_;obtain⟨⟨dx,h1⟩,⟨y,gb,h2,z,B⟩,d,q⟩:=id g;refine p0 ?_;let hk:∀{H':Hp},H' i=O (.be<|wV<|wd A)->H' i=O (.be<|(iR A).map L2.kV):=λe=>by rw[FD];exact e
 refine⟨CF,dx,_,_,h1,T.kG,T.yH,J,dn,_,J,fE.t (k:=iR A) d<|hk c.1,?_⟩;cases e:bT ag (iR A)with
 |some v=>refine⟨CF,dx,_,_,h1,T.kG,T.yH,J,dn,v,J,by rw[<-e];exact fE.t (k:=iR A) d<|hk c.1,?_⟩;exact k H v ag (Kb.refl dn H) g Z<|q A v c.2 e
 |none=>
  refine⟨dx,_,h1,J,fl,Α,dn,i,a,G,A,ag,J,g,n,o,c,p,λH1 v b l=>?_⟩;refine⟨CF,dx,_,_,b _ _ h1,T.kG,T.yH,J,dn,_,J,lp.t (k:=iR A) (b _ _ d) (hk<|b _ _ c.1) (by rw[bn];lia),?_⟩;let m:=(g.same b).g_ c.2 l;let kb:Kb dn H1 (ab H1 dn<|.dT<|de ag (iR A) v):=Kb.ab;obtain⟨⟨r,s⟩,_,j,t⟩:=id m;let u:=(c.same b).dt kb<|b _ _ d;refine⟨CF,r,_,_,s,T.kG,T.yH,J,dn,v,J,?_,?_⟩
  .let:=fE.t (k:=iR A) j<|hk u.1;rw[wH,aj J]at this;exact this
  .exact k _ v _ ((aa.kb b).trans kb) m (pS _ _ _)<|l.dt kb<|b _ _ d
def SeqAt.dt{ag:List (List aL×V)}(h:SeqAt H sl Sq)(k:Kb dn H H')(a:H dn=O (.dT ag)):SeqAt H' sl Sq:=by obtain⟨ys,e,r,q⟩:=h;exact⟨ys,k _ _ e<|aY e a nofun,λx b=>(r x b).dt k a,q⟩
def gT.dt{ag:List (List aL×V)}{l:ê}(h:gT CL H ll ln l)(k:Kb dn H H')(a:H dn=O (.dT ag)):gT CL H' ll ln l:=by obtain⟨dx,pl,ql,sl,fv,h1,h2,b,c,d,n⟩:=h;exact⟨dx,pl,ql,sl,fv,k _ _ h1<|aY h1 a nofun,k _ _ h2<|aY h2 a nofun,k _ _ b<|aY b a nofun,c.dt k a,d.dt k a,n⟩
def bA.dt{ag:List (List aL×V)}(h:bA CL H ll as Pf)(k:Kb dn H H')(b:H dn=O (.dT ag)):bA CL H' ll as Pf:=⟨k _ _ h.ae<|aY h.ae b nofun,h.len,λi l e=>let⟨a,c,q⟩:=h.at_ i l e;⟨a,c,q.dt k b⟩⟩
def adP{a:Ô}(h:Ø (Ò a G A)=false):kM a G A=none:=by unfold kM;rw[h];rfl
def A_{a:Ô}(h:Ø (Ò a G A)=true):kM a G A=O (Ò a G A):=by unfold kM;rw[h];rfl
def FV.NR:∀{o:Option Â},FV H v o->decide (v=.aQ)=o.isNone
|none,h=>by rw[show v=.aQ from h];rfl
|some _,⟨a,e,_⟩=>by rw[e];rfl
inductive adQ(CF CL:À)(vs:List V)(H:Hp)(Q:VK)(_:XK):Prop|m(fl Α dn ln dx pl ql sl:À)(kd:Ã)(fv:V)(a:Ô)(G:Â)(ag:List (List aL×V))(fo:Option Â)(Sq:È)(_:vs=[.ref fl,.ref ln])(_:gU CF H fl Α dn a G ag)(_:Õ a=true)(_:Å G<=200)(_:ag.length<=900000)(_:H ln=O (.aO CL dx<|lf kd pl ql fv sl))(_:FV H fv fo)(_:SeqAt H sl Sq)(_:Sq.length<=20)(_:(∀A∈Sq,Ø A=true))(_:(∀A,fo=O A->kz A Sq))(_:(Sq.all (λA=>Ø<|Ò a G A)=false->∀H':Hp,Kb dn H H'->Q .aQ H'))(_:(Sq.all (λA=>Ø<|Ò a G A)=true->∀(H':Hp)(p bB fT:À)(nI:V)(lU:List (List aL×V)),Kb dn H H'->gU CF H' fl Α dn a G lU->lU.length<=ag.length+21->H p=U->H fT=U->H' p=O (.aO CL bB<|lf kd pl ql nI fT)->FV H' nI (fo.map<|Ò a G)->SeqAt H' fT (Sq.map<|Ò a G)->Q (.ref p) H'))
inductive adR(CL:À)(vs:List V)(H:Hp)(Q:VK)(_:XK):Prop|m(ll ga:À)(as:List À)(Pf:Ê)(a:Ô)(G:Â)(_:vs=[.ref ll,.str<|S a,.ref ga])(_:bA CL H ll as Pf)(_:cj Pf)(_:Õ a=true)(_:bF H G ga)(_:Ø G=true)(_:(ŉ (Ò a G) Pf=false->∀H':Hp,aa H H'->Q .aQ H'))(_:(ŉ (Ò a G) Pf=true->∀(H':Hp)(D:À)(bg:List À),aa H H'->H D=U->bA CL H' D bg (ÿ (Ò a G) Pf)->Q (.ref D) H'))
def adS:cX P w K mg base 5 CF "filled_line" ["self","line"] (adQ CF CL):=dB ["self","line","sequent","old","grown","formula"] T.ZD λH vs Q nd hr h=>by
 obtain⟨fl,Α,dn,ln,dx,pl,ql,sl,kd,fv,a,G,ag,fo,Sq,rfl,hF,ha,hn,hz,g1,g4,⟨xs,qj,vP,rfl⟩,hl,hb,adT,kn,ks⟩:=h;refine⟨_,az (yy 2 3 nd (dm<|yf<|pv 1) λ_ _ _ _ _=>(ym (pv 0) T.kG (NQ T) hr<|y1<|pv 3))<|az (yw (d_<|eF (wA J) J T.xg ϝ<|y1<|yv 4 nd (dm<|pv 2) λ_ _ _ _ _=>(yp kj (pv 4) cH))<|yr cH)<|az (ys 5 nd<|j_ (yq kj (yf<|pv 1) cH) cH<|ym (pv 0) T.kG (NQ T) hr<|y1<|yf<|pv 1)<|yr<|vD (AS T) (hr.dE gn) J<|bx (yf<|pv 1)<|bx (yf<|pv 1)<|bx (yf<|pv 1)<|bx (pv 5) (bx (pv 2) cW),?_⟩;rw[aK]at hl;have nK:=T.nL "kind" gn;have nP:=T.nL "premises" gn;have nQ:=T.nL "places" gn;have nF:=T.nL "formula" gn;have nS:=T.nL "sequent" gn;have S:=hF.qS;have iO:=aY qj S nofun;refine⟨CL,dx,_,_,g1,T.bb,nS,J,sl,J,⟨_,ao.of qj⟩,λD a1=>ui (K:=K) (a:=sl) (xs:=xs.map λx=>V.ref x.1) (λi H'=>c2 λ(I:List (List aL×V))(acc:List V)=>Kb dn H H'/\gU CF H' fl Α dn a G I/\I.length<=ag.length+i/\H' D=O (.ae acc)/\acc.length=i/\∀(j:Nat)(v:V),acc[j]?=O v->∃x,xs[j]?=O x/\FV H' v (kM a G x.2)) ?_ ?_ ?_ ?_⟩
 .exact⟨ag,[],aa.kb<|aa.ab a1,hF.same<|aa.ab a1,Z,aq,J,λj v h=>by simp at h⟩
 .rintro i H' _ ⟨I,acc,kb,_⟩;exact ao.of<|kb _ _ qj iO
 .rintro i y H' a2 ⟨I,acc,kb,aav,hlen,GZ,t,E⟩;rw[aR]at a2;cases ex:xs[i]? with
  |none=>rw[ex]at a2;exact eG a2
  |some x=>
   rw[ex]at a2;cases a2;have l:=(vP x<|bM ex).dt kb S;have hi:i<xs.length:=(b9.mp ex).1;obtain⟨d,h1⟩:=id aav.ob;refine⟨J,?_⟩;refine⟨d,_,h1,J,fl,Α,dn,x.1,a,G,x.2,I,J,aav,ha,hn,l,hb x.2<|bZ.mpr ⟨x,bM ex,J⟩,Z,λH2 v FF c p o7 g=>?_⟩;have r:=c _ _ GZ<|aY GZ aav.qS nofun;refine⟨acc,r,by rw[bn];omega,FF,acc++[v],?_,p.list r,Z,aq,by rw[bw,t];rfl,λj u f=>?_⟩
   .intro b o e ne;exact(au<|bv e a1)▸c _ _ (kb _ _ e ne) ne
   .have kD:Kb D H2 (ab H2 D<|.ae (acc++[v])):=Kb.ab;by_cases q:j<acc.length
    .rw[jX q]at f;obtain⟨x',k,e2⟩:=E j u f;exact⟨x',k,(e2.dt c aav.qS).kb kD r⟩
    .rw[lY Z]at f;have q2:j-acc.length=0:=by
      by_cases z:j-acc.length=0
      .exact z
      .rw[j0 (by simp;lia)]at f;exact eG f
     rw[q2]at f;cases f;have:j=i:=Z;subst this;exact⟨x,ex,g.kb kD r⟩
 .rintro H1 ⟨FG,acc,kb1,Hl,hlen,vZ,t,E⟩;rw[aK]at hlen t;refine⟨D,J,⟨_,ao.of vZ⟩,λB nB=>lq (K:=K) (a:=D) (xs:=acc) (vals:=(acc.map λv=>decide (v=.aQ)).map V.bl) (by show 4<6;decide) (ao.of vZ) Gc Z nB (λi x v l g H' Q' s' q=>?_) λH2 X L=>?_⟩
  .rw[aR,aR,l]at g;cases g;exact⟨J,q H'<|aa.refl H'⟩
  refine⟨B,acc.map λv=>decide (v=.aQ),J,ao.of L,?_⟩;show if((acc.map λv=>decide (v=.aQ)).any id)=true then _ else _;have c:Kb dn H H2:=kb1.trans<|aa.kb X;have vat:∀(j:Nat)(x:FA),xs[j]?=O x->∃v,acc[j]?=O v/\FV H1 v (kM a G x.2):=λj x e=>by
   have f:j<acc.length:=by exact t▸(b9.mp e).1
   obtain⟨x',k,e2⟩:=E j acc[j]<|bL f;rw[e]at k;cases k;exact⟨_,bL f,e2⟩
  cases Y:(xs.map (·.2)).all λA=>Ø (Ò a G A)with
  |false=>
   have:((acc.map λv=>decide (v=.aQ)).any id)=true:=by obtain⟨A,hA,hf⟩:=Íc.mp Y;obtain⟨x,l,rfl⟩:=bZ.mp hA;obtain⟨j,f,rfl⟩:=mZ l;obtain⟨v,ev,g⟩:=vat j xs[j]<|bL f;refine l7.mpr ⟨true,bZ.mpr ⟨v,bM ev,?_⟩,J⟩;rw[g.NR,adP (by simpa using hf)];rfl
   rw[this];exact kn Y H2 c
  |true=>
   have a3:∀x∈xs,Ø (Ò a G x.2)=true:=λx l=>dQ.mp Y x.2<|bZ.mpr ⟨x,l,J⟩;have:((acc.map λv=>decide (v=.aQ)).any id)=false:=by rw[Ôc];intro b hb2;obtain⟨v,g,rfl⟩:=bZ.mp hb2;obtain⟨j,f,rfl⟩:=mZ g;obtain⟨x,k,e2⟩:=E j acc[j]<|bL f;rw[e2.NR,A_<|a3 x<|bM k];simp
   refine al this ?_;have p:=Hl.same X;have r:=X _ _ vZ;have s:=c _ _ g1<|aY g1 S nofun;have adU:=g4.dt c S;have adV:∀H':Hp,Kb dn H2 H'->SeqAt H' D ((xs.map (·.2)).map (Ò a G)):=λH' kb=>by
    obtain⟨as,Hm⟩:=uY (vals:=acc) λi v h=>by obtain⟨x,k,e2⟩:=E i v h;rw[A_<|a3 x<|bM k]at e2;obtain⟨b,e,_⟩:=e2;exact⟨b,e⟩
    have yQ:as.length=xs.length:=by rw[Hm,aK]at t;exact t
    refine⟨as.zip ((xs.map (·.2)).map<|Ò a G),?_,λx l=>?_,?_⟩
    .rw[kb _ _ r<|aY r p.qS nofun,Hm];have h1:(as.zip ((xs.map (·.2)).map<|Ò a G)).map (λx=>V.ref x.1)=((as.zip ((xs.map (·.2)).map<|Ò a G)).map (·.1)).map V.ref:=by generalize as.zip ((xs.map (·.2)).map<|Ò a G)=zz;rw[cV];rfl
     rw[h1,Ìi (by simp;omega)]
    .obtain⟨i,hi,rfl⟩:=mZ l;rw[Ìj]at hi;obtain⟨x,k,e2⟩:=E i (V.ref (as[i]'Z)) (by rw[Hm,aR,bL Z];rfl);rw[A_<|a3 x<|bM k]at e2;obtain⟨b,e,hR⟩:=e2;cases e;rw[bL (by simp at hi;omega)]at k;cases k;rw[Ía];simp only[Ìh];exact(hR.same X).dt kb p.qS
    .rw[Íb (by simp;omega)]
   have fin:∀(m:Hp)(F:List (List aL×V))(v:V),Kb dn H2 m->gU CF m fl Α dn a G F->F.length<=FG.length+1->FV m v (fo.map<|Ò a G)->∀(x d:À)(n:Hp),m x=U->m d=U->n x=O (.aO CL d<|lf kd pl ql v D)->(∀b o,(ab (ab m d<|.own x) x<|.aO CL d []) b=O o->b≠x->n b=O o)->Q (.ref x) n:=λm F v M Cu Qo g x d n nx N a0 R=>by
    have s4:aa m n:=λb o e=>R b o (by rw[au<|bv e nx,au<|bv e N];exact e)<|bv e nx;have Qq:=c.trans M;have kS:H x=none:=by
     cases e:H x with
     |none=>rfl
     |some o=>
      by_cases z:x=dn
      .rw[z,Cu.qS]at nx;cases nx
      .rw[Qq _ _ e z]at nx;cases nx
    exact ks Y n x d D v F (Qq.trans<|aa.kb s4) (Cu.same s4) Z kS a1 a0 (g.aT<|aa.aT s4)<|(adV m M).same s4
   refine⟨CL,dx,_,_,s,T.bb,nF,J,J,?_⟩;cases fo with
   |none=>have efv:fv=.aQ:=g4;subst efv;refine⟨CL,dx,_,_,s,T.bb,nK,J,CL,dx,_,_,s,T.bb,nP,J,CL,dx,_,_,s,T.bb,nQ,J,λx d nx N ne=>⟨x,d,pl,ql,D,kd,.aQ,J,aq,λn a0 R=>⟨J,?_⟩⟩⟩;exact fin H2 FG .aQ (Kb.refl dn H2) p Z J x d n nx N a0 R
   |some A=>
    obtain⟨fa,rfl,Hk⟩:=adU;obtain⟨Hn,Ho⟩:=id p.ob;have Qr:=adT A J;have hbA:Ø A=true:=Qr.vJ λB L=>hb B L;have hbF:Ø (Ò a G A)=true:=(kz.map (w_ a G) Qr).vJ λB L=>by obtain⟨C,hC,rfl⟩:=bZ.mp L;obtain⟨x,l,rfl⟩:=bZ.mp hC;exact a3 x l
    refine⟨Hn,_,Ho,J,CL,dx,_,_,s,T.bb,nF,J,fl,Α,dn,fa,a,G,A,FG,J,p,ha,hn,Hk,hbA,Z,λm v F M Cu Qo g=>?_⟩;have g3:=M _ _ s<|aY s p.qS nofun;rw[A_ hbF]at g;refine⟨CL,dx,_,_,g3,T.bb,nK,J,CL,dx,_,_,g3,T.bb,nP,J,CL,dx,_,_,g3,T.bb,nQ,J,λx d nx N ne=>⟨x,d,pl,ql,D,kd,v,J,aq,λn a0 R=>⟨J,?_⟩⟩⟩;exact fin m F v M Cu Qo g x d n nx N a0 R
def adW(f:Â->Â)(r:Ù):bp (ĭ f r)=bp r:=by cases r<;>rfl
def adX(f:Â->Â)(r:Ù):bR (ĭ f r)=bR r:=by cases r<;>rfl
def adY(T:Tx P w K mg CR CL CP CF CT):Ok P w K mg base 7 "filled_lines" ["lines","name","formula"] (adR CL):=bh ["lines","name","formula","filling","found","line","grown"] T.Y4 λH vs Q nd Y h=>by
 obtain⟨ll,a3,as,Pf,a,G,rfl,n,B,ha,q,hb,kn,ks⟩:=h;refine⟨_,az (ys 3 nd (vD (adN T) (Y.dE gn) J (y2 (pv 1) (pv 2)))) (az (ys 4 nd (bH cW)) (az (yo (dm (pv 0)) (yx 5 nd) (az (ys 6 nd (ym (pv 3) T.kG (adS T) Y (y1 (pv 5)))) (az (yw (yq kj (pv 6) cH) (yr cH)) (bS (yA (pv 4) (pv 6)))))) (yr (pv 4)))),?_⟩;have hn:=(kC hb).1;have eA:=Et (w_ a G) B;refine(λfl dx r C nex=>⟨fl,dx,a3,a,G,J,aq,ha,?_,hn,λH1 Α dn Hg qt Hl Γ=>⟨J,?_⟩⟩)
 .exact⟨by rw[au (bv q.1 r),au (bv q.1 C)];exact q.1,q.2⟩
 have E:aa H H1:=λb o e=>Γ b o (by rw[au (bv e r),au (bv e C)];exact e) (bv e r);have NS:H dn=none:=by
  cases e:H dn with
  |none=>rfl
  |some o=>rw[au (bv e r),au (bv e C),e]at qt;cases qt
 refine⟨gn,λD nD=>?_⟩;have F:H D=none:=E.free nD;have I:aa H1 (ab H1 D (.ae [])):=aa.ab nD;refine⟨ll,J,⟨_,ao.of ((E.trans I) _ _ n.ae)⟩,kh (K:=K) (a:=ll) (xs:=as.map V.ref) (λi s H'=>c4 λ(t u:Option V)(ag:List (List aL×V))(f:List À)=>s=[O (.ref ll),O (.str (S a)),O (.ref a3),O (.ref fl),O (.ref D),t,u]/\aa H H'/\gU CF H' fl Α dn a G ag/\ag.length<=21*i/\bA CL H' D f (ÿ (Ò a G) (Pf.take i))/\((Pf.take i).all λl=>l.sequent.all λA=>Ø (Ò a G A))=true)
  ⟨U,U,[],[],J,E.trans I,Hl.same I,Gc,⟨aq,J,λi l e=>by simp[ÿ]at e⟩,Gc⟩ ?_ ?_ ?_⟩
 .rintro i s H' _ ⟨t,u,ag,f,rfl,c,_⟩;exact ao.of (c _ _ n.ae)
 .rintro i y s H' g ⟨t,u,ag,f,rfl,c,v,hlen,j,x⟩;rw[aR]at g;cases a2:as[i]? with
  |none=>rw[a2]at g;exact eG g
  |some b=>
   rw[a2]at g;cases g;obtain⟨l,k,m_⟩:=n.qO a2;obtain⟨bB,pl,ql,sl,fv,g1,g2,g3,g4,g5,_⟩:=m_;have L:=B.jh l (bM k);have hi:i<200:=by have:=(b9.mp k).1;have:=B.len;lia
   obtain⟨Hn,Ho⟩:=id v.ob;have e1:((Pf.take (i+1)).all λl=>l.sequent.all λA=>Ø (Ò a G A))=(((Pf.take i).all λl=>l.sequent.all λA=>Ø (Ò a G A))&&l.sequent.all λA=>Ø (Ò a G A)):=by rw[gC k,List.all_append];simp
   refine⟨Hn,_,Ho,J,fl,Α,dn,b,bB,pl,ql,sl,_,fv,a,G,ag,_,l.sequent,J,v,ha,hn,Z,c _ _ g1,g4.aT (aa.aT c),g5.same c,L.len,λA M=>(L.ok A M).2,λA M=>(L.rf A M).2,λN H2 d=>?_,λa0 H2 p tR xW R FF d k_ o7 np NT hp a1 aav=>?_⟩
   .refine⟨J,?_⟩;refine kn ?_ H2 (Kb.same NS c d);rw[eA];refine Íc.mpr ⟨l,bM k,?_⟩;rw[N];simp
   .refine⟨J,?_⟩;have X:=Kb.same NS c d;have m:=j.dt d v.qS;have vU:∀{b:À}{o:HO},H b=O o->b≠D:=λe=>bv e F;refine⟨.inl ⟨J,_,ao.of m.ae⟩,D,_,_,J,J,m.ae,by rw[m.f7];unfold ÿ;rw[aK,eh,bn];lia,?_⟩;have k7:gT CL H2 D p ⟨ĭ (Ò a G) l.rule,l.sequent.map (Ò a G)⟩:=by
     refine⟨tR,pl,ql,xW,R,?_,?_,?_,?_,aav,vU g2,vU g3,λz=>(by rw[z,j.ae]at NT;cases NT)⟩
     .show _=O (HO.aO CL tR (lf (S (bp (ĭ (Ò a G) l.rule))) pl ql R xW));rw[adW];exact hp
     .show _=O (HO.ae (nv (Ë (ĭ (Ò a G) l.rule))));rw[Lm];exact X _ _ g2
     .show _=O (HO.ae (nv (bR (ĭ (Ò a G) l.rule))));rw[adX];exact X _ _ g3
     .show FV H2 R (ad0 (ĭ (Ò a G) l.rule));rw[Es];exact a1
    have iQ:=m.snoc k7;refine⟨_,_,FF,f++[p],J,Kb.same F X Kb.ab,k_.list m.ae,Z,?_,by rw[e1,x,a0];rfl⟩;have e2:ÿ (Ò a G) (Pf.take (i+1))=ÿ (Ò a G) (Pf.take i)++[⟨ĭ (Ò a G) l.rule,l.sequent.map (Ò a G)⟩]:=by unfold ÿ;rw[gC k,bU];rfl
    rw[e2];exact iQ
 .rintro s H' ⟨t,u,ag,f,rfl,c,v,hlen,j,x⟩;rw[aK,n.len,l_]at j x;exact(ks (by rw[eA];exact x) H' D f c F j)
inductive ad1(CL CP:À)(vs:List V)(H:Hp)(Q:VK)(_:XK):Prop|m(pr dx ll ga:À)(as:List À)(Pf:Ê)(a:Ô)(G:Â)(_:vs=[.ref pr,.str<|S a,.ref ga])(_:H pr=O (.aO CP dx<|pf ll))(_:bA CL H ll as Pf)(_:cj Pf)(_:Õ a=true)(_:bF H G ga)(_:Ø G=true)(_:(ŉ (Ò a G) Pf=false->∀H':Hp,aa H H'->Q (.bl false) H'))(_:(ŉ (Ò a G) Pf=true->∀(H':Hp)(D:À)(bg:List À),Kb pr H H'->H D=U->H' pr=O (.aO CP dx<|pf D)->bA CL H' D bg (ÿ (Ò a G) Pf)->Q (.bl true) H'))
def NU:cX P w K mg base 8 CP "fill" ["self","name","formula"] (ad1 CL CP):=dB ["self","name","formula"] T.ZE λH vs Q nd d h=>by
 obtain⟨pr,dx,ll,e,as,Pf,a,G,rfl,h1,f,g,i,j,k,kn,ks⟩:=h;refine⟨_,yr<|ym (pv 0) T.cg (Nf T) d<|y1<|yc (adY T) d<|y3 (yf<|pv 0) (pv 1)<|pv 2,?_⟩;refine⟨dx,_,h1,J,CP,dx,_,_,h1,T.cg,T.eQ,J,ll,e,as,Pf,a,G,J,f,g,i,j,k,λc H1 b=>?_,λc H1 D l b m n=>?_⟩
 .exact⟨pr,dx,ll,.aQ,J,b _ _ h1,.inl ⟨J,kn c H1 b⟩⟩
 .exact⟨pr,dx,ll,.ref D,J,b _ _ h1,.inr ⟨D,J,ks c _ D l ((aa.kb b).trans Kb.ab) m aq<|n.obj<|b _ _ h1⟩⟩
structure fX(CL CP:À)(H:Hp)(pr ll:À)(Pf:Ê):Prop where
 ob:∃dx,H pr=O (.aO CP dx (pf ll))
 ln:∃as,bA CL H ll as Pf
 ad2:cj Pf
def fX.same(h:fX CL CP H pr ll Pf)(s:aa H H'):fX CL CP H' pr ll Pf:=⟨let⟨dx,e⟩:=h.ob;⟨dx,s _ _ e⟩,let⟨as,e⟩:=h.ln;⟨as,e.same s⟩,h.ad2⟩
def lc(CL CP pr ll:À)(H:Hp)(Pf:Ê)(c:Call)(Q:VK):Prop:=∀(H':Hp)(D d9:À),Kp pr ll H H'->(d9=ll\/H d9=U)->fX CL CP H' pr d9 (step ⟨Pf⟩ c).1.proof->H' D=O (.ae<|(Íd (step ⟨Pf⟩ c).2).map V.int)->Q (.ref D) H'
def lc.ok{Pf':Ê}(h:lc CL CP pr ll H Pf c Q)(e:ì ⟨Pf⟩ c=.ok (⟨Pf'⟩,l)):∀(H':Hp)(D a:À),Kp pr ll H H'->(a=ll\/H a=U)->fX CL CP H' pr a Pf'->H' D=O (.ae (nv l))->Q (.ref D) H':=λH' D a k f p e2=>by
 have es:step ⟨Pf⟩ c=(⟨Pf'⟩,.told l):=by unfold ϒ;rw[e]
 unfold lc at h;rw[es]at h;refine h H' D a k f p ?_;rw[e2];show O (HO.ae<|nv l)=O (.ae<|(l.map λ(n:Nat)=>(n:Int)).map V.int);rw[cV];rfl
def lc.ro(h:lc CL CP pr ll H Pf c Q)(e:ì ⟨Pf⟩ c=.ok (⟨Pf⟩,l))(p:fX CL CP H pr ll Pf):∀(H':Hp)(D:À),aa H H'->H' D=O (.ae (nv l))->Q (.ref D) H':=λH' D s e2=>h.ok e H' D ll (aa.kp s) (.inl J) (p.same s) e2
def lc.qV(h:lc CL CP pr ll H Pf c Q)(e:ì ⟨Pf⟩ c=.error n)(p:fX CL CP H pr ll Pf):∀(H':Hp)(D:À),aa H H'->H' D=O (.ae [.int (-(n:Int))])->Q (.ref D) H':=λH' D s e2=>by
 have es:step ⟨Pf⟩ c=(⟨Pf⟩,.refused n):=by unfold ϒ;rw[e]
 unfold lc at h;rw[es]at h;exact h H' D ll (aa.kp s) (.inl J) (p.same s) e2
def rT{l:ê}(h:Pf[n]?=O l)(f:Nat->ê->Íe):onLine ⟨Pf⟩ (n:Int) f=f n l:=by
 unfold onLine;rw[ai Z,sj];rw[h];rfl
inductive Ba(CL CP:À)(c:Call)(vs:List V)(H:Hp)(Q:VK)(_:XK):Prop|m(pr ll gv:À)(Pf:Ê)(_:vs=[.ref pr,.ref gv])(_:fX CL CP H pr ll Pf)(_:H gv=O (.ae []))(_:lc CL CP pr ll H Pf c Q)
inductive rV(CL CP:À)(mk:Int->Call)(vs:List V)(H:Hp)(Q:VK)(_:XK):Prop|m(pr ll gv:À)(Pf:Ê)(n:Nat)(_:vs=[.ref pr,.ref gv])(_:fX CL CP H pr ll Pf)(_:H gv=O (.ae [.int (n:Nat)]))(_:n<Pf.length)(_:lc CL CP pr ll H Pf (mk (n:Nat)) Q)
def tV(t:Ä):List V:=t.map λb=>V.int (b.toNat:Int)
inductive FH(CL CP:À)(mk:Ä->Call)(vs:List V)(H:Hp)(Q:VK)(_:XK):Prop|m(pr ll gv r0:À)(Pf:Ê)(t:Ä)(_:vs=[.ref pr,.ref gv])(_:fX CL CP H pr ll Pf)(_:H gv=O (.ae [.ref r0]))(_:H r0=O (.ae<|tV t))(_:t.length<=100000)(_:lc CL CP pr ll H Pf (mk t) Q)
inductive NV(CL CP:À)(mk:Ä->Ä->Call)(vs:List V)(H:Hp)(Q:VK)(_:XK):Prop|m(pr ll gv r0 r1:À)(Pf:Ê)(t u:Ä)(_:vs=[.ref pr,.ref gv])(_:fX CL CP H pr ll Pf)(_:H gv=O (.ae [.ref r0,.ref r1]))(_:H r0=O (.ae<|tV t))(_:H r1=O (.ae<|tV u))(_:t.length<=100000)(_:u.length<=100000)(_:lc CL CP pr ll H Pf (mk t u) Q)
def Bb(t:Ä):(V.int (((tV t).length:Nat):Int))::tV t=nv (toldText t):=by unfold tV nv toldText;rw[aK,bz,cV];rfl
def Bc(l:List Nat):(V.int (((nv l).length:Nat):Int))::nv l=nv (Ϟ l):=by rw[dA];rfl
def u6(t:Ä):(tV t).length=t.length:=aK _
def NW(h:cj Pf):∀l∈Pf,uX l.rule:=λl g=>by
 obtain⟨i,hi,rfl⟩:=mZ g;have Β:=h.down i Pf[i]<|bL hi;have o:=h.len;have f:=h.jh _ g;refine⟨λn c=>by have:=Β n c;lia,λn c=>?_,λA j=>⟨(kC<|(f.rf A j).2.vJ λB k=>(f.ok B k).2).1,(f.rf A j).1⟩⟩;have m:=h.cons i Pf[i]<|bL hi;obtain⟨e,_,_⟩:=Ah m;have d:=h.Ed;generalize Pf[i].rule=r at c e;cases r with
 |ax _|weak _ _=>simp[bR]at c
 |cut a p b q|tensor a p b q|wth a p b q=>have:=afV e;have:=d a;have:=d b;simp[bR]at c;lia
 |par a p q|con a p q|ex a p q=>have:=afU e;have:=d a;simp[bR]at c;lia
 |plus1 a p B|plus2 a p B|der a p|prom a p=>have:=afy e;have:=d a;simp[bR]at c;lia
theorem FI:∀{Pf:Ê},(∀l∈Pf,uX l.rule)->(ř Pf).length<=16006*Pf.length
|[]=>λ_=>aN _
|l::r=>λh=>by
 have h1:=Fj<|h l Gc;have h2:=FI (Pf:=r) λx a=>h x (by simp[a]);unfold ř at*;simp only[l8,bw,aJ,f9]at*;lia
theorem NX:∀{Sq:È},(∀A∈Sq,aE A=true/\Å A<=200)->(Ś Sq).length<=3202*Sq.length
|[]=>λ_=>aN _
|[A]=>λh=>by have:=xj (h A Gc).1;have:=(h A Gc).2;simp only[Ś,dP];lia
|A::B::r=>λh=>by
 have:=xj (h A Gc).1;have:=(h A Gc).2;have a:=NX (Sq:=B::r) λx b=>h x (by simp[b]);have e:Ś (A::B::r)=ã A++44::32::Ś (B::r):=J;rw[e,bw,aJ,aJ];simp only[aJ]at a⊢;lia
def ad3(h:Ľ t=.error (i,n)):n≠0:=by
 unfold Ľ at h;generalize Ĝ t=l at h;let:∀(l:List Ä)(k:Nat)(P:Ê),ű k P l=.error (i,n)->n≠0:=by
  intro l;induction l with
  |nil=>intro k P h;cases h
  |cons u l a=>
   intro k P h;unfold ű at h;cases e:Ć P u with
   |error m=>rw[e]at h;cases h;exact Fq e
   |ok b=>rw[e]at h;exact a _ _ h
 exact this l 0 [] h
def FJ(h:Õ t=true):bD kn t=t:=by refine z4 oy ?_;unfold Õ at h;simp only[aS]at h;exact dQ.mpr λb a=>oy.bp b<|dQ.mp h.2.2 b a
inductive ad4(vs:List V)(H:Hp)(Q:VK)(_:XK):Prop|m(l:À)(xs:List V)(_:vs=[.ref l])(_:H l=O (.ae xs))(_:xs.length<=16000000)(_:∀(H':Hp)(D:À),aa H H'->H D=U->H' D=O (.ae<|.int (xs.length:Nat)::xs)->Q (.ref D) H')
def oF:Ok P w K mg base 1 "counted" ["numbers"] ad4:=bh ["numbers"] T.Zi λH vs Q nd c h=>by obtain⟨l,xs,rfl,h1,d,k⟩:=h;refine⟨_,yr<|cJ iq (bH<|y1<|ye T.cS<|pv 0)<|pv 0,?_⟩;refine⟨l,_,J,.inl<|ao.of h1,Ge,λM a=>⟨M,l,_,_,J,J,aq,aa.ab a _ _ h1,by rw[bn];simp only[dP];lia,λD b=>?_⟩⟩;exact k _ D ((aa.ab a).trans<|aa.ab b) ((aa.ab a).free b) aq
def ad5:Ok P w K mg base 6 "call_text" ["proof","given"] (Ba CL CP .text):=bh ["proof","given"] T.Zm λH vs Q nd a h=>by obtain⟨pr,ll,gv,Pf,rfl,b,m,e⟩:=h;refine⟨_,yr<|yc (oF T) a<|y1<|yc (AE T) a<|y1<|yc (M5 T) a<|y1<|yf<|pv 0,?_⟩;obtain⟨⟨dx,h1⟩,⟨as,f⟩,c⟩:=id b;let d:=NW c;let n:=FI d;let o:=c.len;refine⟨CP,dx,_,_,h1,T.cg,T.eQ,J,ll,as,Pf,J,f,Z,d,λH1 g=>⟨ř Pf,J,Z,λD i=>⟨D,_,J,aq,by show(tV _).length<=_;rw[u6];lia,λH2 E j p k=>?_⟩⟩⟩;refine e.ro (l:=toldText<|ř Pf) J b H2 E ((g.trans<|aa.ab i).trans j) ?_;rw[k];exact cw (λz=>O<|HO.ae z)<|Bb _
def ad6:Ok P w K mg base 4 "call_sequent" ["proof","given"] (rV CL CP .sequent):=bh ["proof","given"] T.Zn λH vs Q nd c h=>by
 obtain⟨pr,ll,gv,Pf,n,rfl,f,i,k,m⟩:=h;refine⟨_,yr<|yc (oF T) c<|y1<|yc (AE T) c<|y1<|yc (ac2 T) c<|y1<|yf<|yl (yf (pv 0)) (yl (pv 1) aG),?_⟩;refine gg λP0 p0=>?_;obtain⟨⟨dx,h1⟩,⟨as,g⟩,o⟩:=id f;have d:Pf[n]?=O Pf[n]:=bL k;obtain⟨a,p,q⟩:=g.at_ n _ d;obtain⟨r,pl,ql,sl,fv,s,B,C,F,t,_⟩:=id q;refine p0 ?_;have e:=o.jh _<|bM d;have aF:∀A∈Pf[n].sequent,aE A=true/\Å A<=200:=λA b=>⟨(e.ok A b).1,(kC (e.ok A b).2).1⟩
 have hlen:=NX aF;have G:=e.len;refine⟨CP,dx,_,_,h1,T.cg,T.eQ,J,_,.int _,ao.of i,J,_,.ref _,ao.of g.ae,cb (j:=n) (by rw[aR,p];rfl),CL,r,_,_,s,T.bb,T.nL "sequent" gn,J,sl,_,J,t,Z,λA b=>by have:=(aF A b).2;lia,λH1 u=>⟨Ś Pf[n].sequent,J,Z,λD v=>⟨D,_,J,aq,by show(tV _).length<=_;rw[u6];lia,λH2 E x I y=>?_⟩⟩⟩;refine m.ro (l:=toldText<|Ś Pf[n].sequent) (by rw[ì,rT d];rfl) f H2 E ((u.trans<|aa.ab v).trans x) ?_;rw[y];exact cw (λz=>O<|HO.ae z)<|Bb _
def ad7:Ok P w K mg base 3 "call_unused" ["proof","given"] (Ba CL CP .open_):=bh ["proof","given"] T.Zp λH vs Q nd a h=>by
 obtain⟨pr,ll,gv,Pf,rfl,b,m,c⟩:=h;refine⟨_,yr<|yc (oF T) a<|y1<|yn (pv 0) T.cg (acI T) a,?_⟩;obtain⟨⟨dx,h1⟩,⟨as,d⟩,e⟩:=id b;let n:=e.len;let o:(Àf Pf).length<=Pf.length:=by unfold Àf;let:=mU (λi=>!Ħ Pf i)<|ø Pf.length;rw[BE]at this;exact this
 refine⟨dx,_,h1,J,pr,dx,ll,as,Pf,J,h1,d,Z,λH1 D f p g=>⟨D,_,J,g,by rw[dA];lia,λH2 E j q k=>?_⟩⟩;refine c.ro (l:=Ϟ<|Àf Pf) J b H2 E (f.trans j) ?_;rw[k];exact cw (λz=>O<|HO.ae z)<|Bc _
def ad8:Ok P w K mg base 2 "call_under" ["proof","given"] (rV CL CP .under):=bh ["proof","given"] T.Zq λH vs Q nd a h=>by obtain⟨pr,ll,gv,Pf,n,rfl,b,e,c,f⟩:=h;refine⟨_,yr<|yc (oF T) a<|y1<|ym (pv 0) T.cg (Fs T) a<|y1<|yl (pv 1) aG,?_⟩;obtain⟨⟨dx,h1⟩,⟨as,g⟩,d⟩:=id b;let o:=d.len;let p:=Ft (Pf:=Pf) (n:=n);refine⟨dx,_,h1,J,_,_,ao.of e,J,pr,dx,ll,as,Pf,n,J,h1,g,Z,d.down,c,λH1 D i q j=>⟨D,_,J,j,by rw[dA];lia,λH2 E k r m=>?_⟩⟩;refine f.ro (l:=Ϟ<|ë Pf n) (by rw[ì,rT<|bL c];rfl) b H2 E (i.trans k) ?_;rw[m];exact cw (λz=>O<|HO.ae z)<|Bc _
def ad9:Ok P w K mg base 3 "call_facts" ["proof","given"] (rV CL CP .facts):=bh ["proof","given"] T.Zr λH vs Q nd d h=>by
 obtain⟨pr,ll,gv,Pf,n,rfl,e,f,b,j⟩:=h;refine⟨_,yr<|cJ iq (bH<|y1<|ym (pv 0) T.cg (acP T) d<|y1<|yl (pv 1) aG)<|ym (pv 0) T.cg (acR T) d<|y1<|yl (pv 1) aG,?_⟩;obtain⟨⟨dx,h1⟩,⟨as,g⟩,c⟩:=id e;have q:=c.len;refine⟨dx,_,h1,J,_,_,ao.of f,J,pr,dx,ll,as,Pf,n,J,h1,g,Z,c.down,b,λH1 k=>⟨Ge,λM m=>?_⟩⟩;have a:aa H (ab H1 M<|.ae [.int (ϻ Pf n:Nat)]):=k.trans<|aa.ab m;refine⟨dx,_,a _ _ h1,J,_,_,ao.of<|a _ _ f,J,pr,dx,ll,as,Pf,n,J,a _ _ h1,g.same a,Z,c.down,b,λr D i s o=>⟨M,D,_,_,J,J,i _ _ aq,o,?_,λX p=>?_⟩⟩
 .rw[dA,bn];unfold A5;simp
 refine j.ro (l:=Vanetb.factsOf Pf n) (by rw[ì,rT<|bL b];rfl) e _ X ((a.trans i).trans<|aa.ab p) ?_;rw[aq];rfl
def jF(k:Kb pr H H'):Kp pr ll H H':=λb o e h _=>k b o e h
def gM(k:Kb ll H H'):Kp pr ll H H':=λb o e _ h=>k b o e h
def NY(r:Ù):adZ[ù r]?=O (bp r):=by cases r<;>rfl
def aea:adZ.Nodup:=by decide
def qu(t:Ä):(bD kn t).length=t.length:=zZ kn t
def Qs(h:n≠0):(!decide (V.int (n:Nat)=V.int 0))=true:=by rw[bO λz=>h (by injection z with z;lia)];rfl
def aeb:Ok P w K mg base 2 "call_rule" ["proof","given"] (rV CL CP .rule):=by
 obtain⟨t,f,v⟩:=T.L0;obtain⟨g,ok,x,A,B,C⟩:=T.YS;have c:g=t:=by
  obtain⟨u,i,e2⟩:=f;rw[x]at i;cases i;cases e2;rfl
 subst c;refine bh ["proof","given","line"] T.Zo λH vs Q nd D h=>?_;obtain⟨pr,ll,gv,Pf,n,rfl,k,F,G,I⟩:=h;refine⟨_,az (ys 2 nd<|yl (yf<|pv 0)<|yl (pv 1) aG)<|yr<|cJ iq (bH<|y1<|VD (bj f)<|y1<|yf<|pv 2)<|yc (oF T) D<|y1<|yf<|pv 2,?_⟩;obtain⟨⟨dx,h1⟩,⟨as,o⟩,V⟩:=id k;have p:Pf[n]?=O Pf[n]:=bL G;obtain⟨a,a2,L⟩:=o.at_ n _ p;obtain⟨q,pl,ql,sl,fv,r,N,aav,Y,a3,_⟩:=id L;have dJ:=lO Pf[n].rule;refine⟨CP,dx,_,_,h1,T.cg,T.eQ,J,_,_,ao.of F,J,_,_,ao.of o.ae,cb (j:=n) (by rw[aR,a2];rfl),?_⟩;refine⟨.inr<|.inl ⟨J,ok,A,B,C⟩,CL,q,_,_,r,T.bb,T.nL "kind" gn,J,g,adZ.map S,S<|bp Pf[n].rule,ù Pf[n].rule,J,J,?_,?_,?_,?_⟩
 .have:=v H;rw[AX]at this;exact this
 .rw[aR,NY];rfl
 .intro m y hm b z;rw[aR]at b;cases e:adZ[m]? with
  |none=>rw[e]at b;exact eG b
  |some u=>
   rw[e]at b;cases b;rw[gF z]at e;have:=DC aea e<|NY _;lia
 refine⟨Ge,λM a0=>?_⟩;have d:aa H (ab H M<|.ae [.int (ù Pf[n].rule:Nat)]):=aa.ab a0;refine⟨CL,q,_,_,d _ _ r,T.bb,T.nL "premises" gn,J,pl,_,J,d _ _ N,by rw[dA];lia,λH2 E s nE R=>⟨M,E,_,_,J,J,s _ _ aq,R,?_,λX a1=>?_⟩⟩
 .simp only[aJ,f9,dA,bn];lia
 refine I.ro (l:=ù Pf[n].rule::Ϟ (Ë Pf[n].rule)) (by rw[ì,rT p];rfl) k _ X ((d.trans s).trans<|aa.ab a1) ?_;rw[aq];refine cw (λz=>O<|HO.ae z) ?_;rw[Bc];rfl
def aec:Ok P w K mg base 16 "call_proof" ["proof","given"] (FH CL CP .proof):=bh ["proof","given","fault"] T.Zj λH vs Q nd g h=>by
 obtain⟨pr,ll,gv,v,Pf,t,rfl,j,x,y,k,m⟩:=h;refine⟨_,az (ys 2 nd<|ym (pv 0) T.cg (acE T) g<|y1<|yc (rQ T) g<|y1<|yl (pv 1) aG)<|az (yw (yq ki (yt (pv 2) aG)<|bj T.oo)<|yr<|rl IP J T.LS boot_list<|y1<|pv 2)<|yr<|bH<|y2 aG<|ye T.cS<|yf<|pv 0,?_⟩;have⟨⟨dx,h1⟩,⟨as,C⟩,E⟩:=id j;have p:=Wi oy abE t;refine⟨dx,_,h1,J,_,_,ao.of x,J,v,t,J,k,y,λH1 a=>⟨pr,dx,ll,bD kn t,J,a _ _ h1,by rw[qu];exact k,Fa t,λi n c H2 tp z b=>?_,λPf' q A H2 r tp s B u d kb b=>?_⟩⟩
 .rw[p]at c;refine⟨_,_,aV.of b,J,J,?_⟩;refine ak (Qs<|ad3 c) ⟨tp,_,J,.inr<|aV.of b,λD e=>?_⟩;refine m.ro (l:=[i+1,n]) (by rw[ì,Íf,c];rfl) j _ D ((a.trans z).trans<|aa.ab e) ?_;rw[aq];rfl
 .rw[p]at q;refine⟨_,_,aV.of b,J,J,?_⟩;refine⟨CP,dx,_,_,u,T.cg,T.eQ,J,r,_,J,.inl<|ao.of d.ae,Ob,λD e=>?_⟩;have f:=aa.ab (o:=HO.ae [.int 0,.int (((s.map V.ref).length:Nat):Int)]) e;refine m.ok (Pf':=Pf') (l:=[0,Pf'.length]) (by rw[ì,Íf,q]) _ D r (jF<|((aa.kb a).trans kb).trans<|aa.kb f) (.inr<|a.free B) ⟨⟨dx,f _ _ u⟩,⟨s,d.same f⟩,A⟩ ?_;rw[aq,d.f7];rfl
def aed:Ok P w K mg base 16 "call_line" ["proof","given"] (FH CL CP .line):=bh ["proof","given","reason"] T.Zk λH vs Q nd g h=>by
 obtain⟨pr,ll,gv,u,Pf,t,rfl,i,v,x,j,k⟩:=h;refine⟨_,az (ys 2 nd<|ym (pv 0) T.cg (acv T) g<|y1<|yc (rQ T) g<|y1<|yl (pv 1) aG)<|az (yw (yq ki (pv 2)<|bj T.oo)<|yr<|bH<|y1<|pJ pK<|pv 2)<|yr<|bH<|y1<|ye T.cS<|yf<|pv 0,?_⟩;have⟨⟨dx,h1⟩,⟨as,m⟩,p⟩:=id i;have q:=K1 oy Pf t;refine⟨dx,_,h1,J,_,_,ao.of v,J,u,t,J,j,x,λH1 a=>⟨pr,dx,ll,as,Pf,bD kn t,J,a _ _ h1,m.same a,p,by rw[qu];exact j,Fa t,λn b H2 y=>?_,λPf' c H2 r kb d=>?_⟩⟩
 .rw[q]at b;refine⟨J,?_⟩;refine ak (Qs<|Fq b) ⟨_,J,Ge,λD e=>?_⟩;exact k.qV (n:=n) (by rw[ì,Íg,b]) i _ D ((a.trans y).trans<|aa.ab e) aq
 .rw[q]at c;obtain⟨z,A⟩:=Ni c p;have s:=kb _ _ (a _ _ h1)<|aY (a _ _ h1) (a _ _ m.ae) nofun;refine⟨J,?_⟩;refine⟨CP,dx,_,_,s,T.cg,T.eQ,J,ll,_,J,.inl<|ao.of d.ae,Ge,λD e=>?_⟩;have f:=aa.ab (o:=HO.ae [.int (((r.map V.ref).length:Nat):Int)]) e;refine k.ok (Pf':=Pf') (l:=[Pf'.length]) (by rw[ì,Íg,c];rfl) _ D ll (gM<|((aa.kb a).trans kb).trans<|aa.kb f) (.inl J) ⟨⟨dx,f _ _ s⟩,⟨r,d.same f⟩,z⟩ ?_;rw[aq,d.f7];rfl
def aee:Ok P w K mg base 2 "call_drop" ["proof","given"] (Ba CL CP .drop):=bh ["proof","given"] T.Zl λH vs Q nd k h=>by
 obtain⟨pr,ll,gv,Pf,rfl,e,p,f⟩:=h;refine⟨_,az (yw (gy<|zb (yf<|pv 0) λ_=>J)<|yr<|bH<|y1<|bj T.YW)<|az (gN<|yn (pv 0) T.cg (acx T) k)<|yr<|bH<|y1<|ye T.cS<|yf<|pv 0,?_⟩;have⟨⟨dx,h1⟩,⟨as,a⟩,m⟩:=id e;refine⟨CP,dx,_,_,h1,T.cg,T.eQ,J,_,.inl ⟨_,ao.of a.ae,J⟩,?_⟩;let g:=a.f7;by_cases he:Pf=[]
 .subst he;rw[show as.map V.ref=[]from kQ g];refine ba ⟨Ge,λD b=>?_⟩;exact f.qV (n:=8) J e _ D (aa.ab b) aq
 .let cu:as.map V.ref≠[]:=λz=>he (kQ (by rw[<-g,z];rfl));refine(?_:if(!(!(as.map V.ref).isEmpty))=true then _ else _);rw[show(as.map V.ref).isEmpty=false from by simpa using cu];refine aU ⟨dx,_,h1,J,pr,dx,ll,as,Pf,J,h1,a,he,λH1 i kb c=>?_⟩;let j:=kb _ _ h1<|aY h1 a.ae nofun;refine⟨CP,dx,_,_,j,T.cg,T.eQ,J,ll,_,J,.inl<|ao.of c.ae,Ge,λD b=>?_⟩;have d:=aa.ab (o:=HO.ae [.int (((i.map V.ref).length:Nat):Int)]) b;refine f.ok (Pf':=Pf.dropLast) (l:=[Pf.dropLast.length]) ?_ _ D ll (gM<|kb.trans<|aa.kb d) (.inl J) ⟨⟨dx,d _ _ j⟩,⟨i,c.same d⟩,m.drop⟩ ?_
  .rw[ì];let:(!Pf.isEmpty)=true:=by simpa using he
   unfold after;rw[aj this];rfl
  .rw[aq,c.f7];rfl
def aef:Ok P w K mg base 13 "call_find" ["proof","given"] (FH CL CP .find):=bh ["proof","given","sequent"] T.Zs λH vs Q nd a h=>by
 obtain⟨pr,ll,gv,p,Pf,t,rfl,c,q,r,e,f⟩:=h;refine⟨_,az (ys 2 nd<|yc (adA T) a<|y1<|yc (rQ T) a<|y1<|yl (pv 1) aG)<|az (yw (yq kj (pv 2) cH)<|yr<|bH<|y1<|bj T.EO)<|yr<|yc (oF T) a<|y1<|ym (pv 0) T.cg (acU T) a<|y1<|pv 2,?_⟩;obtain⟨⟨dx,h1⟩,⟨as,s⟩,u⟩:=id c;let C:=u.len;let g:=WM oy (by decide+kernel:kn 44=true) t;refine⟨_,_,ao.of q,J,p,t,J,e,r,λH1 j=>⟨bD kn t,J,by rw[qu];exact e,λk H2 d=>?_,λSq m H2 sl d qj=>?_⟩⟩
 .rw[g]at k;refine⟨J,⟨Ge,λD o=>?_⟩⟩;exact f.qV (n:=1) (by rw[ì,Íh,k];rfl) c _ D ((j.trans d).trans<|aa.ab o) aq
 .rw[g]at m;let b:=j.trans d;have F:(A7 Pf Sq).length<=Pf.length:=by unfold A7;let:=mU (λi=>Î Pf i==Sq)<|ø Pf.length;rw[BE]at this;exact this
  refine⟨J,?_⟩;refine⟨dx,_,b _ _ h1,J,pr,dx,ll,sl,as,Pf,Sq,J,b _ _ h1,s.same b,qj,Z,λG D v o x=>⟨D,_,J,x,by rw[dA];lia,λy E A I B=>?_⟩⟩;refine f.ro (l:=Ϟ<|A7 Pf Sq) (by rw[ì,Íh,m];rfl) c y E ((b.trans v).trans A) ?_;rw[B];exact cw (λz=>O<|HO.ae z)<|Bc _
def aeg:Ok P w K mg base 6 "call_part" ["proof","given"] (rV CL CP .part):=bh ["proof","given"] T.Zt λH vs Q nd a h=>by obtain⟨pr,ll,gv,Pf,n,rfl,d,g,b,i⟩:=h;refine⟨_,yr<|yc (oF T) a<|y1<|yc (AE T) a<|y1<|yc (M5 T) a<|y1<|ym (pv 0) T.cg (Nq T) a<|y1 (yl (pv 1) aG),?_⟩;have⟨⟨dx,h1⟩,⟨as,j⟩,c⟩:=id d;have v:=c.len;have e:=Lv c b;have k:=e.len;have f:=NW e;have x:=FI f;refine⟨dx,_,h1,J,_,_,ao.of g,J,pr,dx,ll,as,Pf,n,J,h1,j,Z,c.down,b,λH1 D m o y p=>⟨D,m,Ŋ Pf n,J,p,Z,f,λH2 q=>⟨ř<|Ŋ Pf n,J,Z,λE r=>⟨E,_,J,aq,by show(tV _).length<=_;rw[u6];lia,λs X t A u=>?_⟩⟩⟩⟩;refine i.ro (l:=toldText<|ř<|Ŋ Pf n) (by rw[ì,rT<|bL b];rfl) d s X (((o.trans q).trans<|aa.ab r).trans t) ?_;rw[u];exact cw (λz=>O<|HO.ae z)<|Bb _
def aeh:Ok P w K mg base 6 "call_keep" ["proof","given"] (rV CL CP .keep):=bh ["proof","given"] T.Zu λH vs Q nd g h=>by obtain⟨pr,ll,gv,Pf,n,rfl,i,j,a,k⟩:=h;refine⟨_,az (gN<|ym (pv 0) T.cg (acZ T) g<|y1<|yl (pv 1) aG)<|yr<|bH<|y1<|ye T.cS<|yf<|pv 0,?_⟩;have⟨⟨dx,h1⟩,⟨as,m⟩,b⟩:=id i;have r:=b.len;refine⟨dx,_,h1,J,_,_,ao.of j,J,pr,dx,ll,as,Pf,n,J,h1,m,Z,b.down,a,λH1 D e kb p f c=>?_⟩;refine⟨CP,dx,_,_,f,T.cg,T.eQ,J,D,_,J,.inl<|ao.of c.ae,Ge,λE q=>?_⟩;have d:=aa.ab (o:=HO.ae [.int (((e.map V.ref).length:Nat):Int)]) q;refine k.ok (Pf':=Ŋ Pf n) (l:=[(Ŋ Pf n).length]) (by rw[ì,rT<|bL a];rfl) _ E D (jF<|kb.trans<|aa.kb d) (.inr p) ⟨⟨dx,d _ _ f⟩,⟨e,c.same d⟩,Lv b a⟩ ?_;rw[aq,c.f7];rfl
def aei:Ok P w K mg base 133 "call_spread" ["proof","given"] (Ba CL CP .spread):=bh ["proof","given"] T.Zx λH vs Q nd m h=>by
 obtain⟨pr,ll,gv,Pf,rfl,e,s,f⟩:=h;refine⟨_,az (yw (gy<|d_<|yn (pv 0) T.cg (ady T) m)<|yr<|bH<|y1<|bj T.YV)<|yr<|bH<|y1<|ye T.cS<|yf<|pv 0,?_⟩;refine gg λP0 p0=>?_;obtain⟨⟨dx,h1⟩,⟨as,p⟩,g⟩:=id e;refine p0 ?_;refine⟨dx,_,h1,J,pr,dx,ll,as,Pf,J,h1,p,g,λa H1 q=>(⟨Ge,λD b=>?_⟩),λa H1 D i kb b j c=>(?_)⟩
 .refine f.qV (n:=7) ?_ e _ D (q.trans<|aa.ab b) aq;rw[ì];unfold after;show(if decide (Ŀ Pf<=200)=true then held (Ψ Pf)else Íi 7)=_;rw[ai λz=>a<|dR z]
 .refine⟨CP,dx,_,_,j,T.cg,T.eQ,J,D,_,J,.inl<|ao.of c.ae,Ge,λE r=>?_⟩;let d:=aa.ab (o:=HO.ae [.int (((i.map V.ref).length:Nat):Int)]) r;let k:=Lk g a;refine f.ok (Pf':=Ψ Pf) (l:=[(Ψ Pf).length]) ?_ _ E D (jF<|kb.trans<|aa.kb d) (.inr b) ⟨⟨dx,d _ _ j⟩,⟨i,c.same d⟩,by rw[k.1];exact k.2⟩ ?_
  .rw[ì];unfold after;show(if decide (Ŀ Pf<=200)=true then held (Ψ Pf)else Íi 7)=_;rw[aj<|bP a];rfl
  .rw[aq,c.f7];rfl
def aej:Ok P w K mg base 9 "call_rename" ["proof","given"] (NV CL CP .rename):=by
 refine bh ["proof","given","old","new"] T.Zv λH vs Q nd b h=>?_;obtain⟨pr,ll,gv,C,F,Pf,t,u,rfl,p,q,G,I,r,s,v⟩:=h;refine⟨_,(az (ys 2 nd<|yc (rQ T) b<|y1<|yl (pv 1) aG)<|az (ys 3 nd<|yc (rQ T) b<|y1<|yl (pv 1) aG)<|az (yw (PW.pt<|n9 (gy<|d_<|yc (xm T) b<|y1<|pv 2)<|pB<|gy<|d_<|yc (xm T) b<|y1 (pv 3))<|yr<|bH<|y1<|bj T.EO)<|az (gN<|ym (pv 0) T.cg (NU T) b<|y2 (pv 2)<|yc (ER T) b<|y1<|pv 3)<|yr<|bH<|y1<|ye T.cS<|yf (pv 0)),?_⟩;have⟨⟨dx,h1⟩,⟨as,a2⟩,g⟩:=id p;refine⟨_,_,ao.of q,J,C,t,J,r,G,λH1 i=>?_⟩;refine⟨_,_,ao.of<|i _ _ q,J,F,u,J,s,i _ _ I,λH2 L=>?_⟩;have M:=i.trans L;have N:=EA oy t;have e2:=EA oy u;have ref:(Õ t&&Õ u)=false->∀H':Hp,aa H H'->∀D,H' D=U->Q (.ref D) (ab H' D<|.ae [.int (-1)]):=λd H' s' D a=>by refine v.qV (n:=1) ?_ p _ D (s'.trans<|aa.ab a) aq;rw[ì];rw[d];rfl
 refine⟨bD kn t,J,by rw[qu];exact r,λa0 R=>?_⟩;have x:=M.trans R;rw[N];cases c:Õ t with
 |false=>rw[c]at ref;exact⟨Ge,λD a=>ref J a0 x D a⟩
 |true=>
  refine⟨bD kn u,J,by rw[qu];exact s,λS a1=>?_⟩;have j:=x.trans a1;rw[e2];cases e:Õ u with
  |false=>rw[c,e]at ref;exact⟨Ge,λD a=>ref J S j D a⟩
  |true=>
   rw[FJ c,FJ e];have y:=WH g t u;refine⟨dx,_,j _ _ h1,J,u,J,e,λH5 aav X Cq jl=>?_⟩;have f:=j.trans X;refine⟨pr,dx,ll,aav,as,Pf,t,.atom false u,J,f _ _ h1,a2.same f,g,c,jl,J,(λd=>by rw[y]at d;cases d),λ_ H6 D z kb a B k=>?_⟩;refine⟨CP,dx,_,_,B,T.cg,T.eQ,J,D,_,J,.inl<|ao.of k.ae,Ge,λE Y=>?_⟩;have m:=aa.ab (o:=HO.ae [.int (((z.map V.ref).length:Nat):Int)]) Y;refine v.ok (Pf':=ÿ (Ò t<|.atom false u) Pf) (l:=[(ÿ (Ò t<|.atom false u) Pf).length]) ?_ _ E D (jF<|((aa.kb f).trans kb).trans<|aa.kb m) (.inr<|f.free a) ⟨⟨dx,m _ _ B⟩,⟨z,k.same m⟩,Lo (w_ _ _) (λA a3=>jt jl.2 a3) g y⟩ ?_
   .rw[ì];rw[c,e];rfl
   .rw[aq,k.f7];rfl
def aek:Ok P w K mg base 12 "call_fill" ["proof","given"] (NV CL CP .fill):=bh ["proof","given","name","formula"] T.Zw λH vs Q nd d h=>by
 obtain⟨pr,ll,gv,M,N,Pf,t,u,rfl,f,y,a0,R,k,z,g⟩:=h;refine⟨_,az (ys 2 nd<|yc (rQ T) d<|y1<|yl (pv 1) aG)<|az (ys 3 nd<|yc (E4 T) d<|y1<|yc (rQ T) d<|y1<|yl (pv 1) aG)<|az (yw (PW.pt<|n9 (gy<|d_<|yc (xm T) d<|y1<|pv 2)<|pB<|yq kj (pv 3) cH)<|yr<|bH<|y1<|bj T.EO)<|az (yw (gy<|d_<|ym (pv 0) T.cg (NU T) d<|y2 (pv 2)<|pv 3)<|yr<|bH<|y1<|bj T.YU)<|yr<|bH<|y1<|ye T.cS<|yf (pv 0),?_⟩;refine gg λP0 p0=>?_;have⟨⟨dx,h1⟩,⟨as,S⟩,B⟩:=id f;refine p0 ?_;have a1:=EA oy t;have e2:=wX oy u;have a:ì ⟨Pf⟩ (.fill t u)=after (Õ t) 1 (ŗ (ß u) 1 λG=>after (ŉ (Ò t G) Pf) 6<|held<|ÿ (Ò t G) Pf):=by rw[ì,Vanetb.doFill]
 refine⟨_,_,ao.of y,J,M,t,J,k,a0,λH1 m=>?_⟩;refine⟨_,_,ao.of<|m _ _ y,J,N,u,J,z,m _ _ R,λH2 aav=>?_⟩;have C:=m.trans aav;refine⟨bD kn u,J,by rw[qu];exact z,λF X p=>?_,λG q X Y p r=>?_⟩
 .rw[e2]at F;have i:=C.trans p;have ref:∀H':Hp,aa H H'->∀D,H' D=U->Q (.ref D) (ab H' D<|.ae [.int (-1)]):=λH' s' D b=>by refine g.qV (n:=1) ?_ f _ D (s'.trans<|aa.ab b) aq;rw[a,F];unfold after;split<;>rfl
  refine⟨bD kn t,J,by rw[qu];exact k,λs e=>?_⟩;refine dq (λ_=>?_) λ_=>?_
  .exact⟨Ge,λD b=>ref s (i.trans e) D b⟩
  .refine⟨J,⟨Ge,λD b=>ref s (i.trans e) D b⟩⟩
 .rw[e2]at q;have i:=C.trans p;refine⟨bD kn t,J,by rw[qu];exact k,λs e=>?_⟩;have c:=i.trans e;rw[a1];rw[q]at a;obtain⟨a3,bG⟩:=Ee q;cases j:Õ t with
  |false=>rw[j]at a;refine⟨Ge,λD b=>?_⟩;exact g.qV (n:=1) a f _ D (c.trans<|aa.ab b) aq
  |true=>
   rw[j]at a;have a:ì ⟨Pf⟩ (.fill t u)=after (ŉ (Ò t G) Pf) 6 (held<|ÿ (Ò t G) Pf):=a;rw[FJ j];refine⟨J,?_⟩;refine⟨dx,_,c _ _ h1,J,pr,dx,ll,Y,as,Pf,t,G,J,c _ _ h1,S.same c,B,j,r.same e,bG,λhf H5 s5=>(⟨Ge,λD b=>?_⟩),λI H5 D a2 kb b L v=>?_⟩
   .rw[hf]at a;exact g.qV (n:=6) a f _ D ((c.trans s5).trans<|aa.ab b) aq
   .rw[I]at a;refine⟨CP,dx,_,_,L,T.cg,T.eQ,J,D,_,J,.inl<|ao.of v.ae,Ge,λE nE=>?_⟩;have x:=aa.ab (o:=HO.ae [.int (((a2.map V.ref).length:Nat):Int)]) nE;refine g.ok (Pf':=ÿ (Ò t G) Pf) (l:=[(ÿ (Ò t G) Pf).length]) a _ E D (jF<|((aa.kb c).trans kb).trans<|aa.kb x) (.inr<|c.free b) ⟨⟨dx,x _ _ L⟩,⟨a2,v.same x⟩,Lo (w_ _ _) (λA hA=>jt a3 hA) B I⟩ ?_;rw[aq,v.f7];rfl
def tU(s:Ã):Text:=s.cps.toList.map ŀ
def NZ(t:Ä):tU (S t)=t:=by
 show(((t.map å).toArray).toList).map ŀ=t;rw[vh,cV];conv=>rhs;rw[<-vk t]
 exact oM λb _=>by simp
def ael:∀a b:Ä,ltCps (S a).cps.toList (S b).cps.toList=ĝ a b:=by
 let:∀a b:Ä,ltCps (a.map å) (b.map å)=ĝ a b:=by
  intro a;induction a with
  |nil=>intro b;cases b<;>rfl
  |cons x r c=>
   intro b;cases b with
   |nil=>rfl
   |cons y s=>
    show(decide (x.toNat<y.toNat)||(x.toNat==y.toNat&&ltCps (r.map å) (s.map å)))=(decide (x<y)||(x==y&&ĝ r s));rw[c s];congr 1;congr 1;by_cases e:x=y
    .subst e;simp
    .rw[beq_eq_false_iff_ne.mpr e,beq_eq_false_iff_ne.mpr λz=>e<|UInt8.toNat_inj.mp z]
 intro a b;let:=this a b;simpa[S]using this
theorem N0:∀{p:Ä}{l:List Ä},risingS (S p) (l.map S)=true->Nb p l
|_,[]=>λ_=>dO
|p,x::r=>λh=>by let h:(!ltCps (S x).cps.toList (S p).cps.toList&&risingS (S x) (r.map S))=true:=h;rw[aS,ael]at h;exact⟨by simpa using h.1,N0 h.2⟩
def aem{N:List Ô}(nd:N.Nodup)(mem:∀a,a∈N↔∃b,(b,a)∈L){ys:List Ã}(d:ys.Perm (N.map S))(f:sortedS ys=true):ys=(ŋ L).map S:=by
 have e:ys=(ys.map tU).map S:=by
  rw[cV];conv=>lhs;rw[<-vk ys]
  refine oM λy g=>?_;obtain⟨a,_,rfl⟩:=bZ.mp<|d.mem_iff.mp g;show S a=S (tU<|S a);rw[NZ]
 have pl:(ys.map tU).Perm N:=by
  have:=d.map tU;rw[cV]at this;have e2:N.map (tU∘S)=N:=by
   conv=>rhs;rw[<-vk N]
   exact oM λx _=>NZ x
  rw[e2]at this;exact this
 generalize ys.map tU=l at e pl;subst e;have h:l.Nodup:=pl.nodup_iff.mpr nd;have c:ni l:=by
  cases l with
  |nil=>exact Äc
  |cons x r=>exact LG (N0 f) h
 rw[LF c (WT L) λx=>by rw[pl.mem_iff,mem x,EG]]
def rW(L:List (Bool×Ô))(a:Ô):List Nat:=Íj a++[Ğ L false a,Ğ L true a]
def aen(h:aE A=true):(Ĭ A).length<=Å A:=by rw[iW];let:=js h;let a:=cw ő this;rw[aK,iW]at a;rw[<-a,<-ee];exact mU _ _
theorem N1:∀{Sq:È},(∀A∈Sq,aE A=true/\Å A<=200)->(ć Sq).length<=200*Sq.length/\∀x∈ć Sq,Õ x.2=true
|[]=>λ_=>⟨aN _,λx a=>by simp[ć]at a⟩
|A::r=>λh=>by
 obtain⟨c,b⟩:=N1 (Sq:=r) λx a=>h x (by simp[a]);have h1:=h A Gc;have h2:=aen h1.1;have e:ć (A::r)=Ĭ A++ć r:=by unfold ć;rw[l8]
 rw[e];refine⟨by rw[bw,aJ];lia,λx a=>?_⟩;rcases d6.mp a with a|a
 .exact ky h1.1 x a
 .exact b x a
theorem N2{L:List (Bool×Ô)}:∀{N:List Ô},(∀a∈N,a.length<=12)->(N.flatMap (rW L)).length<=15*N.length
|[]=>λ_=>aN _
|a::r=>λh=>by
 have h1:=h a Gc;have c:=N2 (L:=L) (N:=r) λx b=>h x (by simp[b]);rw[l8,bw,aJ];have:(rW L a).length=a.length+3:=by unfold rW Íj;simp
 lia
def aeo(T:Tx P w K mg CR CL CP CF CT):Ok P w K mg base 4 "call_balance" ["proof","given"] (rV CL CP .balance):=bh ["proof","given","balance","answer","name"] T.Zy λH vs Q nd t h=>by
 obtain⟨pr,ll,gv,Pf,n,rfl,aav,hg,hn,bJ⟩:=h;refine⟨_,az (ys 2 nd (yc (adG T) t (y1 (yf (yl (yf (pv 0)) (yl (pv 1) aG)))))) (az (ys 3 nd (bH (y1 (eF (Uf) J T.cS mT (y1 (pv 2)))))) (az (yo (dm (eF (Kv) J T.LZ boot_sorted (y1 (pv 2)))) (yx 4 nd) (bS (gN (pO jz O1 O2 IU (pv 3) (y1 (cJ iq (yc (oF T) t (y1 (yc (AE T) t (y1 (pv 4))))) (Dn (jp t) (pv 2) (pv 4) (λ_ _=>J)))))))) (yr (pv 3)))),?_⟩;have⟨⟨dx,h1⟩,⟨as,Y⟩,hG⟩:=id aav;have I:Pf[n]?=O Pf[n]:=bL hn;have⟨a,ea,hl⟩:=Y.at_ n _ I;obtain⟨bB,pl,ql,sl,fv,g1,g2,g3,g4,g5,_⟩:=id hl;have a2:=hG.jh _ (bM I);have aF:∀A∈Pf[n].sequent,aE A=true/\Å A<=200:=λA u=>⟨(a2.ok A u).1,(kC (a2.ok A u).2).1⟩
 obtain⟨hL,a3⟩:=N1 aF;have B9:=a2.len;have ed:ì ⟨Pf⟩ (.balance (n:Int))=.ok (⟨Pf⟩,(ŋ (ć Pf[n].sequent)).length::(ŋ (ć Pf[n].sequent)).flatMap (rW (ć Pf[n].sequent))):=by rw[ì,rT I];rfl
 refine⟨CP,dx,_,_,h1,T.cg,T.eQ,J,_,.int _,ao.of hg,J,_,.ref _,ao.of Y.ae,cb (j:=n) (by rw[aR,ea];rfl),CL,bB,_,_,g1,T.bb,T.nL "sequent" gn,J,sl,_,J,g5,Z,λA u=>by have:=(aF A u).2;lia,λH1 d E s1 nd c=>?_⟩;have fin:=λH' D s' e'=>bJ.ro ed aav H' D s' e';generalize ć Pf[n].sequent=L at c hL a3 fin;refine⟨d,_,J,c.dict,Ge,λan g=>?_⟩;have v:aa H1 (ab H1 an (.ae [.int (((E.map λx=>((.inr (S x.1):aL),V.ref x.2)).length:Nat):Int)])):=aa.ab g;refine⟨d,_,J,v _ _ c.dict,.inr ⟨(E.map (·.1)).map S,?_,λys p hp hs l=>?_⟩⟩
 .rw[cV,cV,cV];rfl
 have Cw:=aem c.nd c.mem hp hs;have N3:E.length=(ŋ L).length:=by have:=hp.length_eq;rw[Cw,aK,aK,aK]at this;exact this.symm
 have Qv:=c.len;have M:∀b∈ŋ L,b.length<=12/\Õ b=true:=λb e=>by obtain⟨m,hm⟩:=(EG L b).mp e;have:=a3 _ hm;refine⟨?_,this⟩;have h2:Õ b=true:=this;unfold Õ at h2;simp only[aS,du]at h2;exact h2.2.1
 have N4:∀b∈ŋ L,∃q,(b,q)∈E:=λb e=>by obtain⟨⟨b',q⟩,B,rfl⟩:=bZ.mp ((c.mem b).mpr ((EG L b).mp e));exact⟨q,B⟩
 rw[aK,N3]at v l⊢;rw[N3]at Qv;subst Cw;rw[<-AX];generalize ŋ L=N at M N4 fin Qv v l;have s3:=v.trans (aa.ab (o:=HO.ae (wV N)) l);have Cq:p≠an:=λz=>by rw[z,aq]at l;cases l
 refine⟨p,J,⟨_,ao.of aq⟩,kh (K:=K) (a:=p) (xs:=wV N) (λi C H'=>∃F:Option V,C=[O (.ref pr),O (.ref gv),O (.ref d),O (.ref an),F]/\aa H1 H'/\H' p=O (.ae (wV N))/\H' an=O (.ae (nv (N.length::(N.take i).flatMap (rW L)))))
  ⟨U,J,s3,aq,by rw[au (cB Cq),aq];rfl⟩ ?_ ?_ ?_⟩
 .rintro i C H' _ ⟨F,rfl,f,G,_⟩;exact ao.of G
 .rintro i y C H' hy ⟨F,rfl,f,G,r⟩;obtain⟨b,a0,rfl⟩:=jP hy;have e:=bM a0;have hi:i<N.length:=(b9.mp a0).1;obtain⟨q,B⟩:=N4 b e;have hbl:=(M b e).1;have hv:=A9 c.nd B;have yT:=f _ _ (c.at_ _ B);have R:=N2 (L:=L) (N:=N.take i) λx hx=>(M x (List.mem_of_mem_take hx)).1;rw[eh]at R;refine⟨.inl ⟨J,_,ao.of r⟩,b,J,Z,λD nD=>⟨D,_,J,aq,by show(tV _).length<=_;rw[u6];lia,λH3 E' s4 nE hE=>?_⟩⟩;have s:aa H' H3:=(aa.ab nD).trans s4;refine⟨d,.ref q,J,by rw[<-hv];exact fE.k (k:=ċ (S b)) (s _ _ (f _ _ c.dict)),E',q,_,_,J,J,hE,s _ _ yT,?_,λX a1=>⟨an,X,_,_,J,J,aa.ab a1 _ _ (s _ _ r),aq,?_,?_⟩⟩
  .show(V.int _::tV b).length+2<=É;rw[aJ,u6,bn];lia
  .rw[dA,aJ,bn];show _+((V.int _::tV b)++[_,_]).length<=_;rw[bw,aJ,u6];simp only[aJ,f9];lia
  .refine⟨_,J,Kb.same g (f.trans (s.trans (aa.ab a1))) Kb.ab,?_,?_⟩
   .rw[au Cq];exact aa.ab a1 _ _ (s _ _ G)
   .rw[aq,gC a0,vn];refine cw (λz=>O (HO.ae z)) ?_;have e3:(V.int (((tV b).length:Nat):Int)::tV b)++[V.int (Ğ L false b:Nat),V.int (Ğ L true b:Nat)]=nv (rW L b):=by rw[Bb];unfold rW nv;rw[bU];rfl
    show nv _++((V.int (((tV b).length:Nat):Int)::tV b)++[V.int (Ğ L false b:Nat),V.int (Ğ L true b:Nat)])=_;rw[e3];unfold nv;simp
 .rintro C H' ⟨F,rfl,f,G,r⟩;rw[dI,l_]at r;exact(fin H' an (s1.trans f) r)
def tf(a:À)(p:Nat):List (Ã×V):=[("numbers",.ref a),("place",.int (p:Nat))]
def xA{b:À}(h:ao K H b xs)(k:Kb tp H H')(a:H tp=O (.aO CT dx fs)):ao K H' b xs:=by
 rcases h with(h|⟨o,h⟩)|h
 .exact .inl<|.inl<|k _ _ h<|aY h a nofun
 .exact .inl<|.inr ⟨o,k _ _ h<|aY h a nofun⟩
 .exact .inr h
def FV.yU(k:Kb tp H H')(b:H tp=O (.aO CT dx fs)):∀{o:Option Â},FV H v o->FV H' v o
|none,h=>h
|some _,⟨a,e,h⟩=>⟨a,e,k _ _ h.1<|aY h.1 b nofun,h.2⟩
def bA.yU(h:bA CL H ll as Pf)(k:Kb tp H H')(c:H tp=O (.aO CT dx (tf a p))):bA CL H' ll as Pf:=by
 refine⟨k _ _ h.ae<|aY h.ae c nofun,h.len,λi l e=>?_⟩;obtain⟨b,m,o,pl,ql,sl,fv,h1,h2,g,q,⟨ys,j,d,r⟩,n⟩:=h.at_ i l e;refine⟨b,m,o,pl,ql,sl,fv,k _ _ h1<|aY h1 c (by intro z;injection z with t u s;cases s),k _ _ h2<|aY h2 c nofun,k _ _ g<|aY g c nofun,q.yU k c,⟨ys,k _ _ j<|aY j c nofun,λx f=>⟨k _ _ (d x f).1<|aY (d x f).1 c nofun,(d x f).2⟩,r⟩,n⟩
def fX.yU(h:fX CL CP H pr ll Pf)(k:Kb tp H H')(b:H tp=O (.aO CT dx (tf a p))):fX CL CP H' pr ll Pf:=by obtain⟨⟨c,h1⟩,⟨as,h2⟩,d⟩:=h;exact⟨⟨c,k _ _ h1<|aY h1 b (by intro z;injection z with f g e;cases e)⟩,⟨as,h2.yU k b⟩,d⟩
inductive aep(CT:À)(vs:List V)(H:Hp)(Q:VK)(_:XK):Prop|m(tp dx a:À)(_:vs=[.ref tp,.ref a])(_:H tp=O (.aO CT dx []))(_:∀H':Hp,H' tp=O (.aO CT dx<|tf a 0)->(∀b o,H b=O o->b≠tp->H' b=O o)->Q .aQ H')
inductive aeq(K:Ñ)(CT:À)(vs:List V)(H:Hp)(Q:VK)(_:XK):Prop|m(tp dx a:À)(p:Nat)(ns:List Int)(_:vs=[.ref tp])(_:H tp=O (.aO CT dx<|tf a p))(_:ao K H a (ns.map V.int))(_:Q (.bl<|decide (ns.length<=p)) H)
inductive aer(K:Ñ)(CT:À)(vs:List V)(H:Hp)(Q:VK)(_:XK):Prop|m(tp dx a:À)(p:Nat)(ns:List Int)(z:Int)(_:vs=[.ref tp])(_:H tp=O (.aO CT dx<|tf a p))(_:ao K H a (ns.map V.int))(_:ns[p]?=O z)(_:Q (.int z) (ab H tp<|.aO CT dx<|tf a (p+1)))
inductive aes(K:Ñ)(CT:À)(vs:List V)(H:Hp)(Q:VK)(_:XK):Prop|m(tp dx a:À)(p m:Nat)(ns:List Int)(_:vs=[.ref tp])(_:H tp=O (.aO CT dx<|tf a p))(_:ao K H a (ns.map V.int))(_:ns[p]?=O (m:Int))(_:p+1+m<=ns.length)(_:∀D,H D=U->Q (.ref D) (ab (ab H tp<|.aO CT dx<|tf a (p+1+m)) D<|.ae<|((ns.drop (p+1)).take m).map V.int))
def aet:qH P w K mg base 1 "Tape" CT ["self","numbers"] (aep CT):=yC ["self","numbers"] T.YY λH vs Q nd d h=>by obtain⟨tp,dx,a,rfl,h1,k⟩:=h;refine⟨_,az (yu (pv 0)<|pv 1)<|bS<|yu (pv 0) aG,?_⟩;refine⟨CT,dx,_,h1,T.iy,T.B6,by decide,?_⟩;refine⟨CT,dx,_,aq,T.iy,T.tE,by show 1<1000;decide,?_⟩;exact k _ aq λb o e c=>by rw[au c,au c];exact e
def aeu:cX P w K mg base 1 CT "is_over" ["self"] (aeq K CT):=dB ["self"] T.ZG λH vs Q nd c h=>by
 obtain⟨tp,dx,a,p,ns,rfl,h1,b,k⟩:=h;refine⟨_,yr<|yp wm (yf<|pv 0)<|ye T.cS<|yf<|pv 0,?_⟩;refine⟨CT,dx,_,_,h1,T.iy,T.tE,J,CT,dx,_,_,h1,T.iy,T.B6,J,a,_,J,.inl b,?_⟩;rw[aK];let e:decide (((p:Nat):Int)>=((ns.length:Nat):Int))=decide (ns.length<=p):=iC.mpr ⟨λz=>by lia,λz=>by lia⟩;show Q (.bl<|decide (((p:Nat):Int)>=((ns.length:Nat):Int))) H;rw[e];exact k
def FK:cX P w K mg base 1 CT "take_number" ["self"] (aer K CT):=dB ["self"] T.ZH λH vs Q nd d h=>by obtain⟨tp,dx,a,p,ns,z,rfl,h1,b,c,k⟩:=h;refine⟨_,az (Iv (pv 0) aG Iw)<|yr<|yl (yf<|pv 0)<|cJ za (yf<|pv 0) aG,?_⟩;refine⟨tp,CT,dx,_,_,J,h1,T.iy,T.tE,J,_,_,J,J,dx,_,h1,Oc,?_⟩;rw[show c_ "place" (.int (((p:Nat):Int)+1)) (tf a p)=tf a (p+1)from J];refine⟨CT,dx,_,_,aq,T.iy,T.B6,J,CT,dx,_,_,aq,T.iy,T.tE,J,_,_,xA b Kb.ab h1,?_,k⟩;exact Uh (j:=p) (show(((p+1:Nat):Int)-1)=(p:Int) by lia) (by rw[aR,c];rfl)
def aev{a:Nat}(h:a<=b)(c:b<=xs.length):fL xs (O (a:Int)) (O (b:Int))=(xs.drop a).take (b-a):=by unfold fL;rw[mx,mx,BB<|show a<=xs.length by lia,BB c]
def aew:cX P w K mg base 2 CT "take_row" ["self"] (aes K CT):=dB ["self","length"] T.ZI λH vs Q nd d h=>by
 obtain⟨tp,dx,a,p,m,ns,rfl,h1,c,f,g,k⟩:=h;refine⟨_,az (ys 1 nd<|yn (pv 0) T.iy (FK T) d)<|az (Iv (pv 0) (pv 1) Iw)<|yr<|oh zh (yf<|pv 0) (km<|cJ za (yf<|pv 0)<|pv 1)<|km<|yf<|pv 0,?_⟩;refine⟨dx,_,h1,J,tp,dx,a,p,ns,_,J,h1,c,f,?_⟩;refine⟨tp,CT,dx,_,_,J,aq,T.iy,T.tE,J,_,_,J,J,dx,_,aq,Oc,?_⟩;rw[jm,show c_ "place" (.int (((p+1:Nat):Int)+((m:Nat):Int))) (tf a (p+1))=tf a (p+1+m)from J];let i:=xA (H':=ab H tp<|.aO CT dx<|tf a (p+1+m)) c Kb.ab h1;refine⟨CT,dx,_,_,aq,T.iy,T.B6,J,CT,dx,_,_,aq,T.iy,T.tE,J,_,J,CT,dx,_,_,aq,T.iy,T.tE,J,_,J,a,_,J,i,λD b=>?_⟩;let e:fL (ns.map V.int) (O<|((p+1+m:Nat):Int)-((m:Nat):Int)) (O ((p+1+m:Nat):Int))=((ns.drop (p+1)).take m).map V.int:=by rw[show(((p+1+m:Nat):Int)-((m:Nat):Int))=((p+1:Nat):Int) by lia,aev Z (by rw[aK];exact g),show p+1+m-(p+1)=m by lia,BC,By]
 rw[e];refine k D ?_;by_cases z:D=tp
 .rw[z,aq]at b;cases b
 .rw[au z]at b;exact b
def Be(CL CP pr ll:À)(H:Hp)(Pf:Ê)(c:List (List Int))(Q:VK):Prop:=∀(H':Hp)(D d9:À),Kp pr ll H H'->(d9=ll\/H d9=U)->fX CL CP H' pr d9 (ā ⟨Pf⟩ c).1.proof->H' D=O (.ae<|(ā ⟨Pf⟩ c).2.map V.int)->Q (.ref D) H'
def Be.to{c:List (List Int)}{k:Call}(h:Be CL CP pr ll H Pf c Q)(e:Îa c=O k):lc CL CP pr ll H Pf k Q:=λH' D a h1 h2 b d=>by
 have es:ā ⟨Pf⟩ c=((ϒ ⟨Pf⟩ k).1,Íd (ϒ ⟨Pf⟩ k).2):=by unfold ā;rw[e]
 unfold Be at h;rw[es]at h;exact h H' D a h1 h2 b d
def rX{z:Int}(h:¬(0<=z/\z<(Pf.length:Nat)))(f:Nat->ê->Íe):onLine ⟨Pf⟩ z f=.error 2:=by
 unfold onLine;by_cases a:z<0
 .rw[aj a];rfl
 .rw[ai a];rw[j0 Z];rfl
def aex(h:md[i]?=O (n,k)):∃x,Ap[i]?=O (x,(n:Int),(k:Int)):=by
 have e:(md.map λp=>((p.1:Int),(p.2:Int)))[i]?=(Ap.map (·.2))[i]?:=J;rw[aR,aR,h]at e;cases z:Ap[i]? with
 |none=>rw[z]at e;cases e
 |some p=>obtain⟨x,y⟩:=p;rw[z]at e;cases e;exact⟨x,J⟩
inductive oH(n k:Nat)(H:Hp)(gv:À)(Pf:Ê)(zs:List Int)(xs:List (List Int)):Prop|m(ds:List À)(_:H gv=O (.ae<|zs.map V.int++ds.map V.ref))(_:zs.length=n)(_:xs.length=k)(_:ds.length=k)(_:(∀(j:Nat)(x:List Int),xs[j]?=O x->∃d,ds[j]?=O d/\H d=O (.ae<|x.map V.int)))(_:(∀z∈zs,0<=z/\z<(Pf.length:Nat)))(_:(∀x∈xs,Į x=true/\x.length<=100000))
def oH.zero{xs:List (List Int)}(h:oH 0 0 H gv Pf zs xs):zs=[]/\xs=[]/\H gv=O (.ae []):=by obtain⟨ds,h1,h2,d,e,_⟩:=h;have a:=kQ h2;have b:=kQ d;have c:=kQ e;subst a b c;exact⟨J,J,h1⟩
def oH.tW{xs:List (List Int)}(h:oH 1 0 H gv Pf zs xs):∃n:Nat,zs=[(n:Int)]/\xs=[]/\H gv=O (.ae [.int (n:Nat)])/\n<Pf.length:=by
 obtain⟨ds,h1,h2,d,e,_,a,_⟩:=h;have b:=kQ d;have c:=kQ e;subst b c;match zs,h2,h1,a with
 |[z],_,h1,a=>have:=a z Gc;obtain⟨n,rfl⟩:=Int.eq_ofNat_of_zero_le this.1;exact⟨n,J,J,h1,Z⟩
def FL{x:List Int}(h:Į x=true):x.map V.int=tV (gK x):=by
 let:=W0 h;conv=>lhs;rw[<-this]
 rw[cV];rfl
def FM(x:List Int):(gK x).length=x.length:=aK _
def oH.c8{xs:List (List Int)}(h:oH 0 1 H gv Pf zs xs):c2 λ(x:List Int)(f:À)=>zs=[]/\xs=[x]/\H gv=O (.ae [.ref f])/\H f=O (.ae (tV (gK x)))/\(gK x).length<=100000/\ŵ x=O (gK x):=by
 obtain⟨ds,h1,h2,g,i,c,_,e⟩:=h;have a:=kQ h2;subst a;match xs,g,ds,i,h1,c,e with
 |[x],_,[d],_,h1,c,e=>
  obtain⟨b,l⟩:=e x Gc;obtain⟨k,j,e2⟩:=c 0 x J;cases j;exact⟨x,d,J,J,h1,by rw[<-FL b];exact e2,by rw[FM];exact l,EI b⟩
def oH.two{xs:List (List Int)}(h:oH 0 2 H gv Pf zs xs):c4 λ(x y:List Int)(i j:À)=>zs=[]/\xs=[x,y]/\H gv=O (.ae [.ref i,.ref j])/\H i=O (.ae (tV (gK x)))/\H j=O (.ae (tV (gK y)))/\(gK x).length<=100000/\(gK y).length<=100000/\ŵ x=O (gK x)/\ŵ y=O (gK y):=by
 obtain⟨ds,h1,h2,k,m,c,_,f⟩:=h;have a:=kQ h2;subst a;match xs,k,ds,m,h1,c,f with
 |[x,y],_,[d,e],_,h1,c,f=>
  obtain⟨b,l⟩:=f x Gc;obtain⟨b2,l2⟩:=f y Gc;obtain⟨n,g,e2⟩:=c 0 x J;cases g;obtain⟨n,g,o⟩:=c 1 y J;cases g;exact⟨x,y,d,e,J,J,h1,by rw[<-FL b];exact e2,by rw[<-FL b2];exact o,by rw[FM];exact l,by rw[FM];exact l2,EI b,EI b2⟩
def refused{i n k:Nat}{Pf:Ê}{zs:List Int}{xs:List (List Int)}(hi:md[i]?=O (n,k))(g:zs.length=n)(hk:xs.length=k)(f:(zs.all λz=>decide (0<=z/\z<(Pf.length:Nat)))=false):ā ⟨Pf⟩ (((i:Int)::zs)::xs)=(⟨Pf⟩,[-2]):=by
 have b:∀{z:Int}(c:Call),¬(0<=z/\z<(Pf.length:Nat))->ì ⟨Pf⟩ c=.error 2->Îa (((i:Int)::[z])::[])=O c->ā ⟨Pf⟩ (((i:Int)::[z])::[])=(⟨Pf⟩,[-2]):=λ{z} c _ h1 h2=>by
  unfold ā;rw[h2];have:ϒ ⟨Pf⟩ c=(⟨Pf⟩,.refused 2):=by unfold ϒ;rw[h1]
  simp only[this];rfl
 have ex:n=1->k=0->∃z,zs=[z]/\xs=[]/\¬(0<=z/\z<(Pf.length:Nat)):=λh e2=>by
  subst h e2;have c:=kQ hk;subst c;match zs,g,f with
  |[z],_,f=>exact⟨z,J,J,λy=>by simp[y]at f⟩
 have d:n=0->False:=λe=>by subst e;have c:=kQ g;subst c;simp at f
 match i,hi with
 |0,hi|1,hi|2,hi|3,hi|6,hi|9,hi|12,hi|13,hi|14,hi=>cases hi;exact(d J).elim
 |4,hi=>cases hi;obtain⟨z,rfl,rfl,a⟩:=ex J J;exact b (.sequent z) a (by rw[ì,rX a]) J
 |5,hi=>cases hi;obtain⟨z,rfl,rfl,a⟩:=ex J J;exact b (.rule z) a (by rw[ì,rX a]) J
 |7,hi=>cases hi;obtain⟨z,rfl,rfl,a⟩:=ex J J;exact b (.under z) a (by rw[ì,rX a]) J
 |8,hi=>cases hi;obtain⟨z,rfl,rfl,a⟩:=ex J J;exact b (.facts z) a (by rw[ì,rX a]) J
 |10,hi=>cases hi;obtain⟨z,rfl,rfl,a⟩:=ex J J;exact b (.part z) a (by rw[ì,rX a]) J
 |11,hi=>cases hi;obtain⟨z,rfl,rfl,a⟩:=ex J J;exact b (.keep z) a (by rw[ì,rX a]) J
 |15,hi=>cases hi;obtain⟨z,rfl,rfl,a⟩:=ex J J;exact b (.balance z) a (by rw[ì,rX a]) J
 |j+16,hi=>simp[md]at hi
variable(P w K mg base CL CP i n k f)in
def c6:Prop:=∃sp,Fv P w K mg base 200 f sp/\∀(H:Hp)(pr ll gv:À)(Pf:Ê)(zs:List Int)(xs:List (List Int))(Q:VK),fX CL CP H pr ll Pf->oH n k H gv Pf zs xs->Be CL CP pr ll H Pf (((i:Int)::zs)::xs) Q->sp [.ref pr,.ref gv] H Q E0
def aey(hi:md[i]?=O (n,k)){u v:Int}(a:Ap[i]?=O (x,u,v))(e:mg x=O (.ref f)):c6 CL CP f i n k w P K mg base:=by
 match i,hi,a with
 |0,hi,a=>cases hi;cases a;refine⟨_,fS (aec T) gn e,λH pr ll gv Pf zs xs Q b c d=>?_⟩;obtain⟨y,l,rfl,rfl,h,o,p,q⟩:=c.c8;exact⟨pr,ll,gv,l,Pf,gK y,J,b,h,o,p,d.to (by show(ŵ y).map _=_;rw[q];rfl)⟩
 |1,hi,a=>cases hi;cases a;refine⟨_,fS (aed T) gn e,λH pr ll gv Pf zs xs Q b c d=>?_⟩;obtain⟨y,l,rfl,rfl,h,o,p,q⟩:=c.c8;exact⟨pr,ll,gv,l,Pf,gK y,J,b,h,o,p,d.to (by show(ŵ y).map _=_;rw[q];rfl)⟩
 |2,hi,a=>cases hi;cases a;refine⟨_,fS (aee T) gn e,λH pr ll gv Pf zs xs Q b c d=>?_⟩;obtain⟨rfl,rfl,h⟩:=c.zero;exact⟨pr,ll,gv,Pf,J,b,h,d.to J⟩
 |3,hi,a=>cases hi;cases a;refine⟨_,fS (ad5 T) gn e,λH pr ll gv Pf zs xs Q b c d=>?_⟩;obtain⟨rfl,rfl,h⟩:=c.zero;exact⟨pr,ll,gv,Pf,J,b,h,d.to J⟩
 |4,hi,a=>cases hi;cases a;refine⟨_,fS (ad6 T) gn e,λH pr ll gv Pf zs xs Q b c d=>?_⟩;obtain⟨m,rfl,rfl,h,g⟩:=c.tW;exact⟨pr,ll,gv,Pf,m,J,b,h,g,d.to J⟩
 |5,hi,a=>cases hi;cases a;refine⟨_,fS (aeb T) gn e,λH pr ll gv Pf zs xs Q b c d=>?_⟩;obtain⟨m,rfl,rfl,h,g⟩:=c.tW;exact⟨pr,ll,gv,Pf,m,J,b,h,g,d.to J⟩
 |6,hi,a=>cases hi;cases a;refine⟨_,fS (ad7 T) gn e,λH pr ll gv Pf zs xs Q b c d=>?_⟩;obtain⟨rfl,rfl,h⟩:=c.zero;exact⟨pr,ll,gv,Pf,J,b,h,d.to J⟩
 |7,hi,a=>cases hi;cases a;refine⟨_,fS (ad8 T) gn e,λH pr ll gv Pf zs xs Q b c d=>?_⟩;obtain⟨m,rfl,rfl,h,g⟩:=c.tW;exact⟨pr,ll,gv,Pf,m,J,b,h,g,d.to J⟩
 |8,hi,a=>cases hi;cases a;refine⟨_,fS (ad9 T) gn e,λH pr ll gv Pf zs xs Q b c d=>?_⟩;obtain⟨m,rfl,rfl,h,g⟩:=c.tW;exact⟨pr,ll,gv,Pf,m,J,b,h,g,d.to J⟩
 |9,hi,a=>cases hi;cases a;refine⟨_,fS (aef T) gn e,λH pr ll gv Pf zs xs Q b c d=>?_⟩;obtain⟨y,l,rfl,rfl,h,o,p,q⟩:=c.c8;exact⟨pr,ll,gv,l,Pf,gK y,J,b,h,o,p,d.to (by show(ŵ y).map _=_;rw[q];rfl)⟩
 |10,hi,a=>cases hi;cases a;refine⟨_,fS (aeg T) gn e,λH pr ll gv Pf zs xs Q b c d=>?_⟩;refine gg λP0 p0=>?_;obtain⟨m,rfl,rfl,h,g⟩:=c.tW;refine p0 ?_;exact⟨pr,ll,gv,Pf,m,J,b,h,g,d.to J⟩
 |11,hi,a=>cases hi;cases a;refine⟨_,fS (aeh T) gn e,λH pr ll gv Pf zs xs Q b c d=>?_⟩;obtain⟨m,rfl,rfl,h,g⟩:=c.tW;exact⟨pr,ll,gv,Pf,m,J,b,h,g,d.to J⟩
 |12,hi,a=>cases hi;cases a;refine⟨_,fS (aej T) gn e,λH pr ll gv Pf zs xs Q b c d=>?_⟩;obtain⟨y,z,l,r,rfl,rfl,h,o,h1,p,s,q,t⟩:=c.two;exact⟨pr,ll,gv,l,r,Pf,gK y,gK z,J,b,h,o,h1,p,s,d.to (by show Àg y z _=_;unfold Àg;rw[q,t];rfl)⟩
 |13,hi,a=>cases hi;cases a;refine⟨_,fS (aek T) gn e,λH pr ll gv Pf zs xs Q b c d=>?_⟩;obtain⟨y,z,l,r,rfl,rfl,h,o,h1,p,s,q,t⟩:=c.two;exact⟨pr,ll,gv,l,r,Pf,gK y,gK z,J,b,h,o,h1,p,s,d.to (by show Àg y z _=_;unfold Àg;rw[q,t];rfl)⟩
 |14,hi,a=>cases hi;cases a;refine⟨_,fS (aei T) gn e,λH pr ll gv Pf zs xs Q b c d=>?_⟩;obtain⟨rfl,rfl,h⟩:=c.zero;exact⟨pr,ll,gv,Pf,J,b,h,d.to J⟩
 |15,hi,a=>cases hi;cases a;refine⟨_,fS (aeo T) gn e,λH pr ll gv Pf zs xs Q b c d=>?_⟩;obtain⟨m,rfl,rfl,h,g⟩:=c.tW;exact⟨pr,ll,gv,Pf,m,J,b,h,g,d.to J⟩
 |j+16,hi,_=>simp[md]at hi
def aez(h:md[i]?=O (n,k)):n<=2/\k<=2:=(by decide:∀p∈md,p.1<=2/\p.2<=2) _ (bM h)
def N5{x:List Int}(h:ϟ [(0,255,0,15900)] [x]=true):Į x=true/\x.length<=100000:=by unfold ϟ at h;simp only[aS,du]at h;exact⟨LJ h.1.2,by lia⟩
def aeA{x y:List Int}(h:ϟ [(0,255,0,15900),(0,255,0,15900)] [x,y]=true):(Į x=true/\x.length<=100000)/\Į y=true/\y.length<=100000:=by unfold ϟ at h;rw[aS]at h;refine⟨?_,N5 h.2⟩;let h:=h.1;simp only[aS,du]at h;exact⟨LJ h.2,by omega⟩
def aeB{xs:List (List Int)}(hi:md[i]?=O (n,k))(hk:xs.length=k)(a:Äe ł (((i:Int)::zs)::xs)=true):∀x∈xs,Į x=true/\x.length<=100000:=by
 have a:(PyInside.each (ł (i:Int)).1 zs&&ϟ (ł (i:Int)).2 xs)=true:=a;rw[aS]at a;have a:=a.2;have c:=(by decide+kernel:∀i:Nat,i<16->(md[i]?).any (λp=>decide (p.2=0\/p.2=1/\(ł (i:Int)).2=[(0,255,0,15900)]\/p.2=2/\(ł (i:Int)).2=[(0,255,0,15900),(0,255,0,15900)]))=true) i (b9.mp hi).1;rw[hi]at c;intro x m;rcases dR c with rfl|⟨rfl,d⟩|⟨rfl,d⟩
 .rw[kQ hk]at m;cases m
 .rw[d]at a;match xs,hk,a,m with
  |[y],_,a,m=>cases m with
   |head=>exact N5 a
   |tail _ m=>cases m
 .rw[d]at a;match xs,hk,a,m with
  |[y,z],_,a,m=>cases m with
   |head=>exact(aeA a).1
   |tail _ m=>cases m with
    |head=>exact(aeA a).2
    |tail _ m=>cases m
inductive aeC(K:Ñ)(CL CP CT:À)(vs:List V)(H:Hp)(Q:VK)(_:XK):Prop|m(pr ll tp dx a:À)(Pf:Ê)(p:Nat)(ns:List Int)(c:List (List Int))(t:List Int)(_:vs=[.ref pr,.ref tp])(_:fX CL CP H pr ll Pf)(_:H tp=O (.aO CT dx<|tf a p))(_:ao K H a (ns.map V.int))(_:PyFlat.call ğ (ns.drop p)=O (c,t))(_:Äe ł c=true)(_:∀(H':Hp)(D d9:À)(p':Nat),(∀b o,H b=O o->b≠pr->b≠ll->b≠tp->H' b=O o)->(d9=ll\/H d9=U)->p<p'->p'<=ns.length->t=ns.drop p'->H' tp=O (.aO CT dx<|tf a p')->fX CL CP H' pr d9 (ā ⟨Pf⟩ c).1.proof->H' D=O (.ae<|(ā ⟨Pf⟩ c).2.map V.int)->Q (.ref D) H')
def aeD(T:Tx P w K mg CR CL CP CF CT):Ok P w K mg base 201 "answer_of" ["proof","tape"] (aeC K CL CP CT):=by
 refine gg λP0 p0=>?_;obtain⟨ac,ts,N,a0,hlen,GJ⟩:=T.Y1;refine p0 ?_;refine bh ["proof","tape","call","whole_numbers","turn","rows","number","answering"] T.Zz λH vs Q nd f h=>?_;obtain⟨pr,ll,tp,dx,a,Pf,p,ns,c,cI,rfl,hS,A,S,a1,Hu,k⟩:=h;refine⟨_,az (ys 2 nd (yt (bj N) (yn (pv 1) T.iy (FK T) f))) (az (yy 3 4 nd (CO J T.Ax (y1 (yt (pv 2) aG))) (λ_ _ _ _ _=>(yn (pv 1) T.iy (FK T) f))) (az (yy 5 4 nd (CO J T.Ax (y1 (yt (pv 2) aG))) (λ_ _ _ _ _=>(yn (pv 1) T.iy (aew T) f))) (az (yw (gy (d_ (eF (zj J) J T.Aq Àa (y1 (yv 6 nd (dm (pv 3)) (λ_ _ _ _ _=>(ym (pv 0) T.cg (act T) f (y1 (pv 6))))))))) (yr (bH (y1 (bj T.YT))))) (az (ys 7 nd (yt (pv 2) aG)) (yr (cv 200 (f.dE gn) (pv 7) (y2 (pv 0) (cJ iq (pv 3) (pv 5))))))))),?_⟩;obtain⟨i,n,m,xs,X,hi,hl,Y,rfl⟩:=WX a1;obtain⟨nm,r⟩:=aex hi;have⟨t,g,et,a3,vC⟩:=GJ i nm n m r;obtain⟨sp,hFv,kW⟩:=aey (base:=base) T hi r vC;obtain⟨Gu,hm2⟩:=aez hi;have Hv:=EH Y;have aeG:=aeB hi Hv Hu;have⟨⟨dxp,eD⟩,⟨as,hP⟩,hG⟩:=id hS;have aeH:tp≠pr:=aY A eD (by intro z;injection z with z1 z2 z3;cases z3);have aeI:tp≠ll:=aY A hP.ae nofun;refine⟨dx,_,A,J,tp,dx,a,p,ns,_,J,A,S,X,_,_,a0 _,cb (j:=i) (by rw[aR,et];rfl),?_⟩;have Γ:Kb tp H (ab H tp (.aO CT dx (tf a (p+1)))):=Kb.ab;have t1:(ab H tp (.aO CT dx (tf a (p+1)))) tp=O (.aO CT dx (tf a (p+1))):=aq;generalize ab H tp (.aO CT dx (tf a (p+1)))=H1 at Γ t1;refine⟨_,_,a3 _,J,(n:Int),J,Z,Z,λaav G=>?_⟩;rw[sj];have I:tp≠aav:=λz=>by rw[<-z,t1]at G;cases G
 refine Dh (λj H'=>Kb tp H1 H'/\H' tp=O (.aO CT dx (tf a (p+1+j)))/\H' aav=O (.ae (((ns.drop (p+1)).take j).map V.int))) ⟨λb o e _=>by rw[au (bv e G)];exact e,by rw[au I];exact t1,aq⟩ (λj H' hj h=>?_) (λH2 h=>?_)
 .obtain⟨kb,E,hW⟩:=h;have Qw:p+1+j<ns.length:=Z;have Qx:ns[p+1+j]?=O ns[p+1+j]:=bL Qw;refine⟨J,?_⟩;refine⟨dx,_,E,J,tp,dx,a,p+1+j,ns,_,J,E,xA S (Γ.trans kb) A,Qx,?_⟩;have e1:(ns.drop (p+1))[j]?=O ns[p+1+j]:=by rw[xQ];exact Qx
  refine⟨_,by rw[au (cB I)];exact hW,by rw[aK,eh,bn];lia,?_,?_,?_⟩
  .intro b o e ne;exact(au (bv e G))▸(au ne)▸kb _ _ e ne
  .rw[au I];exact aq
  .rw[aq,gC e1,bU];rfl
 .obtain⟨kb2,t2,Qy⟩:=h;have nO:=Γ.trans kb2;refine⟨_,_,a3 _,J,(m:Int),J,Z,Z,λR nR=>?_⟩;rw[sj];have Hw:tp≠R:=λz=>by rw[<-z,t2]at nR;cases nR
  refine Dh (λj H'=>c3 λ(ys:List (List Int))(ds:List À)(q:Nat)=>Ā j (ns.drop (p+1+n))=O (ys,ns.drop q)/\q<=ns.length/\p+1+n<=q/\Kb tp H2 H'/\H' tp=O (.aO CT dx (tf a q))/\H' R=O (.ae (ds.map V.ref))/\ds.length=j/\∀(l:Nat)(y:List Int),ys[l]?=O y->∃d,ds[l]?=O d/\d≠R/\d≠tp/\H' d=O (.ae (y.map V.int)))
   ⟨[],[],p+1+n,J,hl,aN _,λb o e _=>by rw[au (bv e nR)];exact e,by rw[au Hw];exact t2,aq,J,λl y h=>by simp at h⟩ (λj H' hj h=>?_) (λH3 h=>?_)
  .refine gg λP0 p0=>?_;obtain⟨ys,ds,q,f,Cz,yT,kb,E,hR,a2,o0⟩:=h;have⟨x,s',N6⟩:=LI Y hj f;obtain⟨mm,e1,e2,rfl,rfl⟩:=WW N6;refine p0 ?_;have xY:=EH f;refine⟨J,?_⟩;refine⟨dx,_,E,J,tp,dx,a,q,mm,ns,J,E,xA S (nO.trans kb) A,e1,e2,λd nd=>?_⟩;have Hx:d≠R:=λz=>by rw[z,hR]at nd;cases nd
   have CC:d≠tp:=λz=>by rw[z,E]at nd;cases nd
   refine⟨_,by rw[au (cB Hx),au (cB Hw)];exact hR,by rw[aK,a2,bn];lia,ys++[(ns.drop (q+1)).take mm],ds++[d],q+1+mm,LH f N6,e2,Z,?_,?_,?_,by rw[bw,a2];rfl,λl y C=>?_⟩
   .intro b o e ne;have hb:=kb _ _ e ne;rw[au (bv e nR),au (bv hb nd),au ne];exact hb
   .rw[au Hw,au (cB CC)];exact aq
   .rw[aq,bU];rfl
   .by_cases z:l<ys.length
    .rw[jX z]at C;refine gg λP0 p0=>?_;obtain⟨d',f1,f2,f3,L⟩:=o0 l y C;refine p0 ?_;refine⟨d',by rw[jX Z];exact f1,f2,f3,?_⟩;rw[au f2,au (bv L nd),au f3];exact L
    .rw[lY Z]at C;have z2:l-ys.length=0:=by
      by_cases y0:l-ys.length=0
      .exact y0
      .rw[j0 (by simp;lia)]at C;cases C
     rw[z2]at C;cases C;refine⟨d,by rw[lY Z,show l-ds.length=0 by lia];rfl,Hx,CC,?_⟩;rw[au Hx];exact aq
  .refine gg λP0 p0=>?_;obtain⟨ys,ds,q,f,Cz,yT,qU,t3,tH,a2,o0⟩:=h;rw[Y]at f;have Cw:xs=ys:=cw (λo=>(o.getD ([],[])).1) f;have Qz:cI=ns.drop q:=cw (λo=>(o.getD ([],[])).2) f;subst Cw;have vT:=nO.trans qU;have nWt:aav≠tp:=cB I;have M:=qU _ _ Qy nWt;have yV:=hS.yU vT A;have⟨⟨N7,N8⟩,⟨tP,iQ⟩,_⟩:=id yV;refine p0 ?_;have vH:((ns.drop (p+1)).take n).length=n:=by rw[eh,ib];lia
   generalize(ns.drop (p+1)).take n=zs at Qy M kW vH k;refine⟨aav,J,⟨_,ao.of M⟩,λB nB=>lq (K:=K) (a:=aav) (xs:=zs.map V.int) (vals:=(zs.map λ(z:Int)=>decide (0<=z/\z<(Pf.length:Nat))).map V.bl) (by show 6<8;decide) (ao.of M) Gc (by rw[aK];lia) nB (λj x v r hv H' Q' s' qq=>?_) (λH4 F hB=>?_)⟩
   .rw[aR]at r;rw[aR,aR]at hv;cases ez:zs[j]? with
    |none=>rw[ez]at r;cases r
    |some z=>
     rw[ez]at r hv;cases r;cases hv;exact⟨N7,_,s' _ _ N8,J,pr,N7,ll,tP,Pf,z,J,s' _ _ N8,iQ.same s',qq H' (aa.refl H')⟩
   refine⟨B,zs.map λ(z:Int)=>decide (0<=z/\z<(Pf.length:Nat)),J,ao.of hB,?_⟩;show if(!((zs.map λ(z:Int)=>decide (0<=z/\z<(Pf.length:Nat))).all id))=true then _ else _;have aeJ:((zs.map λ(z:Int)=>decide (0<=z/\z<(Pf.length:Nat))).all id)=zs.all λ(z:Int)=>decide (0<=z/\z<(Pf.length:Nat)):=by rw[oJ];rfl
   rw[aeJ];have Hy:Kb tp H H4:=vT.trans (aa.kb F);have t4:=F _ _ t3;have fr:∀{b:À}{H':Hp},aa H4 H'->H' b=U->H b=none:=λ{b H'} s e=>by
    cases eb:H b with
    |none=>rfl
    |some o=>
     by_cases z:b=tp
     .rw[z,s _ _ t4]at e;cases e
     .rw[s _ _ (Hy _ _ eb z)]at e;cases e
   cases cT:zs.all λ(z:Int)=>decide (0<=z/\z<(Pf.length:Nat))with
   |false=>refine ba ⟨Ge,λD nD=>?_⟩;have es:=refused (Pf:=Pf) hi vH Hv cT;rw[es]at k;have u:=aa.ab (o:=HO.ae [.int (-2)]) nD;exact k _ D ll q (λb o e h1 h2 h3=>u _ _ (Hy _ _ e h3)) (.inl J) Z Cz Qz (u _ _ t4) ((yV.same F).same u) aq
   |true=>
    refine aU ⟨_,_,a3 _,J,?_⟩;refine⟨g,sp,J,hFv,aav,R,_,_,J,J,F _ _ M,F _ _ tH,by rw[aK,aK,bn];lia,λgv ngv=>?_⟩;have u:=aa.ab (o:=HO.ae (zs.map V.int++ds.map V.ref)) ngv;have QA:=F.trans u;refine kW _ pr ll gv Pf zs xs Q (yV.same QA) ⟨ds,aq,vH,Hv,a2,λj x r=>?_,λz X=>?_,aeG⟩ λH' D d9 kp fl hS' hD=>?_
    .obtain⟨d,f1,f2,f3,L⟩:=o0 j x r;exact⟨d,f1,QA _ _ L⟩
    .exact dR (dQ.mp cT z X)
    .refine k H' D d9 q (λb o e h1 h2 h3=>kp _ _ (u _ _ (Hy _ _ e h3)) h1 h2) ?_ Z Cz Qz (kp _ _ (u _ _ t4) aeH aeI) hS' hD;rcases fl with e|e
     .exact .inl e
     .exact .inr (fr u e)
def FV.cn{od:Ó}{u:HO}(k:Kb gb H H')(b:H gb=O (.cn od u)):∀{o:Option Â},FV H v o->FV H' v o
|none,h=>h
|some _,⟨a,e,h⟩=>⟨a,e,k _ _ h.1<|aY h.1 b nofun,h.2⟩
def bA.cn{od:Ó}{u:HO}(h:bA CL H ll as Pf)(k:Kb gb H H')(a:H gb=O (.cn od u)):bA CL H' ll as Pf:=by
 refine⟨k _ _ h.ae<|aY h.ae a nofun,h.len,λi l e=>?_⟩;obtain⟨b,j,m,pl,ql,sl,fv,h1,h2,f,o,⟨ys,g,c,p⟩,n⟩:=h.at_ i l e;exact⟨b,j,m,pl,ql,sl,fv,k _ _ h1<|aY h1 a nofun,k _ _ h2<|aY h2 a nofun,k _ _ f<|aY f a nofun,o.cn k a,⟨ys,k _ _ g<|aY g a nofun,λx d=>⟨k _ _ (c x d).1<|aY (c x d).1 a nofun,(c x d).2⟩,p⟩,n⟩
def fX.cn{od:Ó}{u:HO}(h:fX CL CP H pr ll Pf)(k:Kb gb H H')(a:H gb=O (.cn od u)):fX CL CP H' pr ll Pf:=by obtain⟨⟨b,h1⟩,⟨as,h2⟩,c⟩:=h;exact⟨⟨b,k _ _ h1<|aY h1 a nofun⟩,⟨as,h2.cn k a⟩,c⟩
inductive N9(K:Ñ)(vs:List V)(H:Hp)(Q:VK)(_:XK):Prop|m(a:À)(ns:List Int)(_:vs=[.ref a])(_:ao K H a (ns.map V.int))(_:Äf ns=true)(_:∀(H':Hp)(D:À),H' D=O (.ae<|(ŷ ns).map V.int)->Q (.ref D) H')
def aeK{ns:List Int}(h:Äf ns=true):∃pc,Àh ğ ns.length ns=O pc/\Ϡ ł pc=true/\(ŷ ns).length<=10000000/\ŷ ns=ϡ (Ϣ ā Óc (pc.map ϐ)):=by
 unfold Äf at h;cases e:Àh ğ ns.length ns with
 |none=>rw[e]at h;cases h
 |some pc=>rw[e]at h;simp only[aS]at h;refine⟨pc,J,h.1.1.2,dR h.2,?_⟩;unfold ŷ PyVanetb.calls;rw[e]
def aeL{fd:θ}(F:p0 K "answers" "answers" (aH 158) f fd):fY P w K mg base pd 202 f fd ["calls"] (N9 K):=by
 refine F.ok afT (by rintro _ _ _ _ ⟨_,_,rfl,_⟩;rfl) λcC A b0 s H vs Q E n h=>?_;have nd:=afT.nd;obtain⟨a,ns,rfl,hq,C,k⟩:=h;refine⟨_,(az (ys 1 nd<|Ka (acr T) (n.dE gn) J)<|az (ys 2 nd<|vD (aet T) (n.dE gn) J<|y1<|pv 0)<|az (ys 3 nd<|bH cW)<|az (qX sv (gy<|d_<|yn (pv 2) T.iy (aeu T) n)<|bS<|gN<|pO jz O1 O2 IU (pv 3)<|y1<|yc (oF T) n (y1 (Jx (yc (aeD T) n (y2 (pv 1) (pv 2))))))<|yr<|pv 3),?_⟩;have⟨pc,G,Hu,afA,I⟩:=aeK C;intro pr dx a2 jk nex;refine⟨pr,dx,J,aq,λH1 ll k8 eD He Γ=>⟨J,?_⟩⟩;have s1:aa H H1:=aa.made a2 jk Γ;have L:H ll=none:=by
  cases e:H ll with
  |none=>rfl
  |some o=>rw[au<|bv e a2,au<|bv e jk,e]at k8;cases k8
 refine(λtp dt qQ CC net=>⟨tp,dt,a,J,aq,λH2 jG Ε=>⟨J,?_⟩⟩);have M:aa H1 H2:=aa.made qQ CC Ε;have dj:=s1.trans M;have N:H tp=none:=s1.free qQ;have ph:fX CL CP H2 pr ll []:=⟨⟨dx,M _ _ eD⟩,⟨[],M _ _ He,J,λi l e=>by simp at e⟩,Af⟩
 refine⟨gn,λgb q=>?_⟩;have N_:H gb=none:=dj.free q;have m:tp≠gb:=bv jG q;refine⟨λmm r H'=>∃(p:Nat)(Pf:Ê)(ll:À)(d:List Int)(j:List (List<|List Int))(f:Nat),r=[O<|.ref a,O<|.ref pr,O<|.ref tp,O<|.ref gb]/\mm=ns.length-p/\p<=ns.length/\H' tp=O (.aO CT dt<|tf a p)/\aa H H'/\H' gb=O (.ae<|d.map V.int)/\(∀o,fX CL CP (ab H' gb o) pr ll Pf)/\H ll=U/\Àh ğ f (ns.drop p)=O j/\Ϡ ł j=true/\ŷ ns=d++ϡ (Ϣ ā ⟨Pf⟩<|j.map ϐ),⟨_,0,[],ll,[],pc,ns.length,J,J,cM _,by rw[au m];exact jG,dj.trans<|aa.ab q,aq,λo=>by rw[jm];exact ph.same<|aa.ab q,L,G,Hu,I⟩,?_⟩;rintro mm r H' ⟨p,Pf,ll,d,j,f,rfl,rfl,hp,u,sm,v,a0,QB,R,S,g⟩;have oV:=sm.seq hq;refine⟨dt,_,u,J,tp,dt,a,p,ns,J,u,oV,?_⟩;by_cases aW:p<ns.length
 case neg=>
  rw[bP (by lia:ns.length<=p)]
  
  rw[List.drop_eq_nil_of_le Z]at R;rw[WZ R]at g;have g:ŷ ns=d:=by rw[g];simp[ϡ,Ϣ]
  exact k H' gb (by rw[g];exact v)
 rw[bO (by lia:¬ns.length<=p)];refine⟨λr y=>∃m',m'<ns.length-p/\∃(p:Nat)(Pf:Ê)(ll:À)(d:List Int)(j:List (List<|List Int))(f:Nat),r=[O<|.ref a,O<|.ref pr,O<|.ref tp,O<|.ref gb]/\m'=ns.length-p/\p<=ns.length/\y tp=O (.aO CT dt<|tf a p)/\aa H y/\y gb=O (.ae<|d.map V.int)/\(∀o,fX CL CP (ab y gb o) pr ll Pf)/\H ll=U/\Àh ğ f (ns.drop p)=O j/\Ϡ ł j=true/\ŷ ns=d++ϡ (Ϣ ā ⟨Pf⟩<|j.map ϐ),λ_ _ h=>h,?_⟩;refine gg λP0 p0=>?_;obtain⟨f',c,t,a1,hc,aav,rfl⟩:=WY (λz=>by have:=cw ő z;rw[ib,f9]at this;lia) R;refine p0 ?_;have QC:Äe ł c=true/\Ϡ ł a1=true:=by
  unfold Ϡ at S⊢;rw[d7,aS]at S;exact S
 rw[bz,WU]at g;have g:ŷ ns=d++((((ā ⟨Pf⟩ c).2.length:Nat):Int)::(ā ⟨Pf⟩ c).2++ϡ (Ϣ ā (ā ⟨Pf⟩ c).1 (a1.map ϐ))):=by
  rw[g];rfl
 have hlen:=cw ő g;rw[bw,bw,aJ]at hlen;refine⟨.inl ⟨J,_,ao.of v⟩,gb,_,v,dO,λod=>?_⟩;have m:tp≠gb:=aY u v (by intro z;cases z);have X:aa H (ab H' gb<|.cn od<|.ae<|d.map V.int):=λb o e=>by rw[au<|bv e N_];exact sm _ _ e
 refine⟨pr,ll,tp,dt,a,Pf,p,ns,c,t,J,a0 _,by rw[au m];exact u,X.seq hq,hc,QC.1,λY D d9 p' kb fr Qw GB et a3 yV hD=>?_⟩;have ngp:gb≠pr:=by
  obtain⟨⟨bB,e⟩,_⟩:=a0<|.ae [];exact λz=>by rw[z,aq]at e;cases e
 have Cr:gb≠ll:=by
  obtain⟨_,⟨bg,e⟩,_⟩:=a0<|.dK [];exact λz=>by have:=e.ae;rw[z,aq]at this;cases this
 have HA:Y gb=O (.cn od<|.ae<|d.map V.int):=kb _ _ aq ngp Cr<|cB m;have aeS:H pr=none:=a2;have sH3:aa H Y:=λb o e=>kb _ _ (X _ _ e) (bv e aeS) (bv e QB)<|bv e N;have nDg:D≠gb:=aY hD HA (by intro z;cases z);have aeT:H d9=none:=by
  rcases fr with e|e
  .rw[e];exact QB
  .exact X.free e
 refine⟨HA,D,_,J,by rw[au nDg];exact hD,by rw[aK];lia,λH4 E B nE hE=>?_⟩;have hgE:E≠gb:=λz=>by rw[z,aq]at nE;cases nE
 refine⟨gb,E,_,_,J,J,B _ _ aq,hE,by rw[aJ,aK,aK,bn];lia,?_⟩;have kg:∀o,Kb gb Y (ab (ab H4 gb<|.ae<|d.map V.int++.int ((((ā ⟨Pf⟩ c).2.map V.int).length:Nat):Int)::(ā ⟨Pf⟩ c).2.map V.int) gb o):=λo b x e ne=>by
  rw[au ne,au ne];exact B _ _ (by rw[au ne];exact e)
 refine⟨ns.length-p',Z,p',(ā ⟨Pf⟩ c).1.proof,d9,d++(((ā ⟨Pf⟩ c).2.length:Nat):Int)::(ā ⟨Pf⟩ c).2,a1,f',J,J,GB,?_,?_,?_,λo=>yV.cn (kg o) HA,aeT,by rw[<-et];exact aav,QC.2,?_⟩
 .rw[au m];exact B _ _ (by rw[au m];exact a3)
 .intro b o e;have nb:=bv e N_;rw[au nb];exact B _ _ (by rw[au nb];exact sH3 _ _ e)
 .rw[aq,bU,bz,aK]
 .rw[g,jc]
namespace Cp.H
open Vaneta (Formula Text Name)
open Vanetb (wAx wCut wTensor wPar wWith wPlus1 wPlus2 wDer wWeak wCon wProm wEx)
def afB{u:Á}(X:K.In h)(G:h.Ns î mg)(a:Ń K î x=O (O u))(r:bm v u):bV mg x v:=⟨u,sJ X G a,r⟩
def afC{n:Int}{t:í}(X:K.In h)(G:h.Ns î mg)(a:Ń K î x=O (O (.int n t))):bV mg x (.int n):=⟨_,sJ X G a,_,J⟩
def afN{n:Ã}{t:í}(X:K.In h)(G:h.Ns î mg)(a:Ń K î x=O (O (.str n t))):bV mg x (.str n):=⟨_,sJ X G a,_,J⟩
def afD(X:K.In h)(G:h.Ns î mg)(a:Ń K î x=O U):mg x=none:=PySem.W.mg_none_of X G a
def afE{t:À}{aD:Array Á}{sl:Array (Option Á)}(X:K.In h)(G:h.Ns î mg)(a:Ń K î x=O (O (.ref t)))(l:K.lookup t=O ⟨.type "tuple",od,.seq aD n,sl⟩)(hz:aD.size<=1000)(r:aX xs aD.toList):∃a,bV mg x (.ref a)/\∀H,aV K H a xs:=⟨t,⟨_,sJ X G a,J⟩,λH=>.inr ⟨_,aD,n,l,J,J,by rw[bn];lia,r⟩⟩
def afO{t:À}{aD:Array Á}{sl:Array (Option Á)}(X:K.In h)(G:h.Ns î mg)(a:Ń K î x=O (O (.ref t)))(l:K.lookup t=O ⟨.type "tuple",U,.seq aD n,sl⟩):c2 λ(a:À)(o:Ó)=>mg x=O (.ref a)/\K.lookup a=O o/\o.cls=.type "tuple"/\o.dict=none:=⟨t,_,sJ X G a,l,J,J⟩
def afF(X:K.In h)(G:h.Ns î mg)(a:Ń K î x=O (O (.ref f)))(l:K.lookup f=O ⟨oc,od,.func (Ī x x (mz st) (kr st) (gP st) .none kV doc pm an cC ct),kU⟩) (c:ν K cC x=true) (k:İ K (.ref f)=true):DF K mg x st:=⟨f,_,DB l c k,sJ X G a⟩
def afG{q:Ã}(a:ą K (.ref C) x=O (O (.ref f)))(i:ϓ K (.ref f)=true)(l:K.lookup f=O ⟨oc,od,.func (Ī x q (mz st) (kr st) (gP st) .none kV doc pm an cC ct),kU⟩) (c:ν K cC q=true) (k:İ K (.ref f)=true):DM K C x q st:=⟨f,_,DB l c k,⟨a,i,k⟩⟩
def afH{q:Ã}(X:K.In h)(G:h.Ns î mg)(b:Ń K î x=O (O (.ref C)))(a:ą K (.ref C) "__init__"=O (O (.ref f)))(i:ϓ K (.ref f)=true)(l:K.lookup f=O ⟨oc,od,.func (Ī "__init__" q (mz st) (kr st) (gP st) .none kV doc pm an cC ct),kU⟩) (c:ν K cC q=true) (k:İ K (.ref f)=true) (mk:Áj K C=true) (d:İ K (.ref C)=true):DI K mg C x q st:=⟨f,_,DB l c k,sJ X G b,⟨mk,a,i,d⟩⟩
def afI{f:Ã}(a:ą K (.ref C) f=O U):ip K C f:=a
def afJ{f g:Ã}(a:ą K (.ref C) f=O U)(b:ą K (.ref C) g=O U):∀x∈[f,g],ip K C x:=by intro x c;simp only[a_,fj,fk]at c;rcases c with rfl|rfl<;>assumption
def afP{f g i j k:Ã}(a:ą K (.ref C) f=O U)(b:ą K (.ref C) g=O U)(c:ą K (.ref C) i=O U)(d:ą K (.ref C) j=O U)(e:ą K (.ref C) k=O U):∀x∈[f,g,i,j,k],ip K C x:=by intro x h;simp only[a_,fj,fk]at h;rcases h with rfl|rfl|rfl|rfl|rfl<;>assumption
def rY(o:Ó):List (Ã×í×Á):=match o.data with
 |.dict es _=>es.toList.map λe=>match e.key with
  |.str s t=>(s,t,e.val)
  |_=>("",default,e.val)
 |_=>[]
def tu(w:è)(p:Ã×í×Á):DictEntry:=⟨PyData.keyHash w.params p.1,.str p.1 p.2.1,p.2.2⟩
theorem N':∀l:List (Ã×í×Á),Pairs (eV P w) (l.map (tu w)) (l.map λp=>((ċ p.1:aL),p.2.2))
|[]=>.nil
|p::l=>.cons (CG p.1 p.2.1) J<|N' l
abbrev QD(ag:List (aL×V))(l:List (Ã×í×Á)):Prop:=Paired (λp q=>p.1=.inr q.1/\bm p.2 q.2.2) ag l
theorem Oa:∀{ag:List (aL×V)}{l:List (Ã×í×Á)},QD ag l->KV ag (l.map λp=>((ċ p.1:aL),p.2.2))
|_,_,.nil=>.nil
|_,_,.cons ⟨e,r⟩ t=>.cons ⟨e,r⟩<|Oa t
def aeU{ep:Nat}{o:Ó}(f:K.lookup a=O o)(ns:(a==Ĉ)=false)(g:o=⟨.type "dict",U,.dict ((rY o).map (tu w)).toArray ep,#[]⟩)(nd:decide ((rY o).map (·.1)).Nodup=true)(r:QD ag (rY o)):DK P w K a ag:=by
 have nd:=dR nd;generalize rY o=l at*;subst g;refine⟨ns,_,_,ep,l.map λp=>((ċ p.1:aL),p.2.2),f,⟨J,J,J⟩,J,λe c=>?_,N' l,?_,Oa r⟩
 .have c:e∈l.map (tu w):=by simpa using c
  obtain⟨p,_,rfl⟩:=bZ.mp c;exact⟨ċ p.1,CG p.1 p.2.1,J⟩
 .rw[cV];have:((λp:aL×Á=>p.1)∘λp:Ã×í×Á=>((ċ p.1:aL),p.2.2))=(ċ:Ã->aL)∘(·.1):=J;rw[this,<-cV];exact Ód _ (λa b d z=>d<|Äj z) nd
def afK{ep:Nat}{o:Ó}(X:K.In h)(G:h.Ns î mg)(e:Ń K î x=O (O (.ref a)))(b:K.lookup a=O o)(ns:(a==Ĉ)=false)(c:o=⟨.type "dict",U,.dict ((rY o).map (tu w)).toArray ep,#[]⟩)(nd:decide ((rY o).map (·.1)).Nodup=true)(r:QD ag (rY o)):∃a,bV mg x (.ref a)/\DK P w K a ag:=⟨a,⟨_,sJ X G e,J⟩,aeU b ns c nd r⟩
def h_(K:Ñ)(mg:Ã->Option Á)(t:À)(x:Ã)(n k:Int):Prop:=∃f,(∀H,aV K H t [.ref f,.int n,.int k])/\mg x=O (.ref f)
def afL{t:À}{n k:Int}{a b:í}{sl:Array (Option Á)}(X:K.In h)(G:h.Ns î mg)(e:Ń K î x=O (O (.ref f)))(l:K.lookup t=O ⟨.type "tuple",od,.seq #[.ref f,.int n a,.int k b] m,sl⟩):h_ K mg t x n k:=⟨f,λH=>.inr ⟨_,_,m,l,J,J,by rw[bn];show 3<=_;decide,.cons J<|.cons ⟨_,J⟩<|.cons ⟨_,J⟩ .nil⟩,sJ X G e⟩
def afQ{m6 m7 m8 m9 yF yG:À}(c:bV mg "MAKERS" (.ref a))(d:DK P w K a [(.inr (S ň),.ref m0),(.inr (S ķ),.ref m1),(.inr (S Ů),.ref m2),(.inr (S ů),.ref m3),(.inr (S ĸ),.ref m4),(.inr (S Ĺ),.ref m5),(.inr (S Ξ),.ref m6),(.inr (S Ű),.ref m7),(.inr (S Φ),.ref m8),(.inr (S ĺ),.ref m9),(.inr (S Ļ),.ref yF),(.inr (S wEx),.ref yG)])(e0:mg "make_axiom"=O (.ref m0))(e1:mg "make_cut"=O (.ref m1))(e2:mg "make_tensor"=O (.ref m2))(e3:mg "make_par"=O (.ref m3))(e4:mg "make_with"=O (.ref m4))(e5:mg "make_plus_first"=O (.ref m5))(e6:mg "make_plus_second"=O (.ref m6))(e7:mg "make_derelict"=O (.ref m7))(e8:mg "make_weaken"=O (.ref m8))(e9:mg "make_contract"=O (.ref m9))(e10:mg "make_promote"=O (.ref yF))(e11:mg "make_exchange"=O (.ref yG)):∃a m0 m1 m2 m3 m4 m5 m6 m7 m8 m9 yF yG,bV mg "MAKERS" (.ref a)∧DK P w K a [(.inr (S ň),.ref m0),(.inr (S ķ),.ref m1),(.inr (S Ů),.ref m2),(.inr (S ů),.ref m3),(.inr (S ĸ),.ref m4),(.inr (S Ĺ),.ref m5),(.inr (S Ξ),.ref m6),(.inr (S Ű),.ref m7),(.inr (S Φ),.ref m8),(.inr (S ĺ),.ref m9),(.inr (S Ļ),.ref yF),(.inr (S wEx),.ref yG)]∧mg "make_axiom"=O (.ref m0)∧mg "make_cut"=O (.ref m1)∧mg "make_tensor"=O (.ref m2)∧mg "make_par"=O (.ref m3)∧mg "make_with"=O (.ref m4)∧mg "make_plus_first"=O (.ref m5)∧mg "make_plus_second"=O (.ref m6)∧mg "make_derelict"=O (.ref m7)∧mg "make_weaken"=O (.ref m8)∧mg "make_contract"=O (.ref m9)∧mg "make_promote"=O (.ref yF)∧mg "make_exchange"=O (.ref yG):=⟨_,_,_,_,_,_,_,_,_,_,_,_,_,c,d,e0,e1,e2,e3,e4,e5,e6,e7,e8,e9,e10,e11⟩
def afR(c:bV mg "CHECKS" (.ref a))(d:DK P w K a [(.inr (S ķ),.ref m0),(.inr (S ĸ),.ref m1),(.inr (S ĺ),.ref m2),(.inr (S Ļ),.ref m3)])(b:mg "cut_fits"=O (.ref m0))(e:mg "with_fits"=O (.ref m1))(e2:mg "contract_fits"=O (.ref m2))(f:mg "promote_fits"=O (.ref m3)):c0 λa m0 m1 m2 m3=>bV mg "CHECKS" (.ref a)/\DK P w K a [(.inr (S ķ),.ref m0),(.inr (S ĸ),.ref m1),(.inr (S ĺ),.ref m2),(.inr (S Ļ),.ref m3)]/\mg "cut_fits"=O (.ref m0)/\mg "with_fits"=O (.ref m1)/\mg "contract_fits"=O (.ref m2)/\mg "promote_fits"=O (.ref m3):=⟨_,_,_,_,_,c,d,b,e,e2,f⟩
def afS(c:bV mg "SPREADERS" (.ref a))(d:DK P w K a [(.inr (S [42]),.ref m0),(.inr (S [124]),.ref m1),(.inr (S [38]),.ref m2),(.inr (S [43]),.ref m3),(.inr (S [33]),.ref m4),(.inr (S [63]),.ref m5)])(b:mg "put_tensor"=O (.ref m0))(e:mg "put_par"=O (.ref m1))(e2:mg "put_with"=O (.ref m2))(f:mg "put_plus"=O (.ref m3))(g:mg "put_of_course"=O (.ref m4))(h:mg "put_why_not"=O (.ref m5)):c1 λa m0 m1 m2 m3 m4 m5=>bV mg "SPREADERS" (.ref a)/\DK P w K a [(.inr (S [42]),.ref m0),(.inr (S [124]),.ref m1),(.inr (S [38]),.ref m2),(.inr (S [43]),.ref m3),(.inr (S [33]),.ref m4),(.inr (S [63]),.ref m5)]/\mg "put_tensor"=O (.ref m0)/\mg "put_par"=O (.ref m1)/\mg "put_with"=O (.ref m2)/\mg "put_plus"=O (.ref m3)/\mg "put_of_course"=O (.ref m4)/\mg "put_why_not"=O (.ref m5):=⟨_,_,_,_,_,_,_,c,d,b,e,e2,f,g,h⟩
def afM{b c d g j m o p q r s u v w y z:À}{sl:Array (Option Á)}(X:K.In h)(G:h.Ns î mg)(e:Ń K î "CALLS"=O (O (.ref a)))(l:K.lookup a=O ⟨.type "tuple",od,.seq #[.ref b,.ref c,.ref d,.ref g,.ref j,.ref m,.ref o,.ref p,.ref q,.ref r,.ref s,.ref u,.ref v,.ref w,.ref y,.ref z] n,sl⟩)(B:h_ K mg b "call_proof" 0 1)(h1:h_ K mg c "call_line" 0 1)(h2:h_ K mg d "call_drop" 0 0)(C:h_ K mg g "call_text" 0 0)(D:h_ K mg j "call_sequent" 1 0)(E:h_ K mg m "call_rule" 1 0)(F:h_ K mg o "call_unused" 0 0)(I:h_ K mg p "call_under" 1 0)(a1:h_ K mg q "call_facts" 1 0)(L:h_ K mg r "call_find" 0 1)(M:h_ K mg s "call_part" 1 0)(N:h_ K mg u "call_keep" 1 0)(a0:h_ K mg v "call_rename" 0 2)(P:h_ K mg w "call_fill" 0 2)(Q:h_ K mg y "call_spread" 0 0)(R:h_ K mg z "call_balance" 1 0):c2 λ(a:À)(A:List À)=>bV mg "CALLS" (.ref a)/\(∀H,aV K H a (A.map V.ref))/\A.length=16/\∀(i:Nat)(x:Ã)(n k:Int),Ap[i]?=O (x,n,k)->c2 λt f=>A[i]?=O t/\(∀H,aV K H t [.ref f,.int n,.int k])/\mg x=O (.ref f):=by
 refine⟨a,[b,c,d,g,j,m,o,p,q,r,s,u,v,w,y,z],⟨_,sJ X G e,J⟩,λH=>.inr ⟨_,_,n,l,J,J,by rw[bn];show 16<=_;decide,.cons J<|.cons J<|.cons J<|.cons J<|.cons J<|.cons J<|.cons J<|.cons J<|.cons J (.cons J (.cons J (.cons J (.cons J (.cons J (.cons J (.cons J (.nil))))))))⟩,J,?_⟩;intro i x n k h;match i,h with
 |0,h=>cases h;exact⟨_,_,J,B.choose_spec⟩
 |1,h=>cases h;exact⟨_,_,J,h1.choose_spec⟩
 |2,h=>cases h;exact⟨_,_,J,h2.choose_spec⟩
 |3,h=>cases h;exact⟨_,_,J,C.choose_spec⟩
 |4,h=>cases h;exact⟨_,_,J,D.choose_spec⟩
 |5,h=>cases h;exact⟨_,_,J,E.choose_spec⟩
 |6,h=>cases h;exact⟨_,_,J,F.choose_spec⟩
 |7,h=>cases h;exact⟨_,_,J,I.choose_spec⟩
 |8,h=>cases h;exact⟨_,_,J,a1.choose_spec⟩
 |9,h=>cases h;exact⟨_,_,J,L.choose_spec⟩
 |10,h=>cases h;exact⟨_,_,J,M.choose_spec⟩
 |11,h=>cases h;exact⟨_,_,J,N.choose_spec⟩
 |12,h=>cases h;exact⟨_,_,J,a0.choose_spec⟩
 |13,h=>cases h;exact⟨_,_,J,P.choose_spec⟩
 |14,h=>cases h;exact⟨_,_,J,Q.choose_spec⟩
 |15,h=>cases h;exact⟨_,_,J,R.choose_spec⟩
 |_+16,h=>exact eG h
def fin{a:À}(b:mg "answers"=O (.ref a))(T:Tx P w K mg CR CL CP CF CT):∃fd,(∀(s:Ì)(us:List Á),us.length=(["calls"]:List Ã).length->ι s fd ⟨us,[]⟩ ((["calls"]:List Ã).zip us))/\∀base,K.In base->base.Ns î mg->fY P w K mg base pd 202 a fd ["calls"] (N9 K):=by
 obtain⟨f,fd,F,d⟩:=T.ZA;obtain rfl:f=a:=by rw[d]at b;cases b;rfl
 refine⟨fd,λs us c=>?_,λbase _ _=>aeL T F⟩;obtain⟨oc,od,kV,doc,pm,an,cC,ct,kU,rfl,e,g⟩:=F.ex;rcases us with _|⟨u,_|⟨_,_⟩⟩
 .cases c
 .exact .of_eq J
 .cases c
end Cp.H
end Cp
open PySem PySem.W PyProof.Rows
set_option maxHeartbeats 0 in
open Cp.Cp.H in
theorem t_a{w:World}{mg:Str->Option Value}{h:Heap}(KX:(hd0.heap_1 w.params).In h)(G:h.Ns mainGlobals mg):Cp.Txa PySem.Challenge.rw_countproofs_s01_answers.prog w (hd0.heap_1 w.params) mg 269 506 809 592 994:=by
 k_fillS
 refine' ⟨afD KX G ?_,afD KX G ?_,afD KX G ?_,afD KX G ?_,afN KX G ?_,afE KX G ?_ ?_ ?_ ?_,afE KX G ?_ ?_ ?_ ?_,afK KX G ?_ ?_ ?_ ?_ ?_ ?_,afC KX G ?_,afC KX G ?_,afC KX G ?_,afF KX G ?_ ?_ ?_ ?_,afF KX G ?_ ?_ ?_ ?_,afF KX G ?_ ?_ ?_ ?_,afF KX G ?_ ?_ ?_ ?_,afF KX G ?_ ?_ ?_ ?_,afF KX G ?_ ?_ ?_ ?_,afF KX G ?_ ?_ ?_ ?_,afF KX G ?_ ?_ ?_ ?_,afF KX G ?_ ?_ ?_ ?_,afF KX G ?_ ?_ ?_ ?_,afF KX G ?_ ?_ ?_ ?_,afF KX G ?_ ?_ ?_ ?_,afF KX G ?_ ?_ ?_ ?_,afF KX G ?_ ?_ ?_ ?_,afD KX G ?_,afD KX G ?_,afC KX G ?_,afN KX G ?_,afN KX G ?_,afN KX G ?_,afN KX G ?_,afN KX G ?_,afF KX G ?_ ?_ ?_ ?_,afF KX G ?_ ?_ ?_ ?_,afF KX G ?_ ?_ ?_ ?_,afF KX G ?_ ?_ ?_ ?_,afF KX G ?_ ?_ ?_ ?_,⟨?_,?_,?_,?_⟩,afJ ?_ ?_,afH KX G ?_ ?_ ?_ ?_ ?_ ?_ ?_ ?_,afG ?_ ?_ ?_ ?_ ?_,afG ?_ ?_ ?_ ?_ ?_,afG ?_ ?_ ?_ ?_ ?_,afG ?_ ?_ ?_ ?_ ?_,afG ?_ ?_ ?_ ?_ ?_,afG ?_ ?_ ?_ ?_ ?_,afG ?_ ?_ ?_ ?_ ?_,afG ?_ ?_ ?_ ?_ ?_,afG ?_ ?_ ?_ ?_ ?_,afG ?_ ?_ ?_ ?_ ?_,afG ?_ ?_ ?_ ?_ ?_,afC KX G ?_⟩
 all_goals try k_is
 all_goals try k_is
 all_goals try k_is
 all_goals try exact rfl
 all_goals try decide
 all_goals try ((repeat refine .cons (by first |exact ⟨rfl,rfl⟩|exact ⟨rfl,_,rfl⟩|exact ⟨_,rfl⟩) ?_);exact .nil)
set_option maxHeartbeats 0 in
open Cp.Cp.H in
theorem t_b{w:World}{mg:Str->Option Value}{h:Heap}(KX:(hd0.heap_1 w.params).In h)(G:h.Ns mainGlobals mg):Cp.Txb PySem.Challenge.rw_countproofs_s01_answers.prog w (hd0.heap_1 w.params) mg 269 506 809 592 994:=by
 k_fillS
 refine' ⟨afN KX G ?_,afC KX G ?_,afF KX G ?_ ?_ ?_ ?_,afF KX G ?_ ?_ ?_ ?_,⟨?_,?_,?_,?_⟩,afP ?_ ?_ ?_ ?_ ?_,afD KX G ?_,afF KX G ?_ ?_ ?_ ?_,afF KX G ?_ ?_ ?_ ?_,afF KX G ?_ ?_ ?_ ?_,afF KX G ?_ ?_ ?_ ?_,afF KX G ?_ ?_ ?_ ?_,afF KX G ?_ ?_ ?_ ?_,afF KX G ?_ ?_ ?_ ?_,afN KX G ?_,afN KX G ?_,afN KX G ?_,afN KX G ?_,afN KX G ?_,afF KX G ?_ ?_ ?_ ?_,afF KX G ?_ ?_ ?_ ?_,afF KX G ?_ ?_ ?_ ?_,afF KX G ?_ ?_ ?_ ?_,afF KX G ?_ ?_ ?_ ?_,afF KX G ?_ ?_ ?_ ?_,afF KX G ?_ ?_ ?_ ?_,afF KX G ?_ ?_ ?_ ?_,afF KX G ?_ ?_ ?_ ?_,afF KX G ?_ ?_ ?_ ?_,afF KX G ?_ ?_ ?_ ?_,afD KX G ?_,afF KX G ?_ ?_ ?_ ?_,afF KX G ?_ ?_ ?_ ?_,afF KX G ?_ ?_ ?_ ?_,afF KX G ?_ ?_ ?_ ?_,afF KX G ?_ ?_ ?_ ?_,afF KX G ?_ ?_ ?_ ?_,afF KX G ?_ ?_ ?_ ?_,afQ (afB KX G ?_ rfl) (aeU ?_ ?_ ?_ ?_ ?_) (PySem.W.mg_of KX G ?_) (PySem.W.mg_of KX G ?_) (PySem.W.mg_of KX G ?_) (PySem.W.mg_of KX G ?_) (PySem.W.mg_of KX G ?_) (PySem.W.mg_of KX G ?_) (PySem.W.mg_of KX G ?_) (PySem.W.mg_of KX G ?_) (PySem.W.mg_of KX G ?_) (PySem.W.mg_of KX G ?_) (PySem.W.mg_of KX G ?_) (PySem.W.mg_of KX G ?_),afR (afB KX G ?_ rfl) (aeU ?_ ?_ ?_ ?_ ?_) (PySem.W.mg_of KX G ?_) (PySem.W.mg_of KX G ?_) (PySem.W.mg_of KX G ?_) (PySem.W.mg_of KX G ?_),afD KX G ?_,afC KX G ?_,afC KX G ?_,afF KX G ?_ ?_ ?_ ?_,afF KX G ?_ ?_ ?_ ?_,afN KX G ?_,afN KX G ?_,afF KX G ?_ ?_ ?_ ?_,afH KX G ?_ ?_ ?_ ?_ ?_ ?_ ?_ ?_,afG ?_ ?_ ?_ ?_ ?_,afD KX G ?_,afG ?_ ?_ ?_ ?_ ?_,afD KX G ?_⟩
 all_goals try k_is
 all_goals try k_is
 all_goals try k_is
 all_goals try exact rfl
 all_goals try decide
 all_goals try ((repeat refine .cons (by first |exact ⟨rfl,rfl⟩|exact ⟨rfl,_,rfl⟩|exact ⟨_,rfl⟩) ?_);exact .nil)
set_option maxHeartbeats 0 in
open Cp.Cp.H in
theorem t_c{w:World}{mg:Str->Option Value}{h:Heap}(KX:(hd0.heap_1 w.params).In h)(G:h.Ns mainGlobals mg):Cp.Txc PySem.Challenge.rw_countproofs_s01_answers.prog w (hd0.heap_1 w.params) mg 269 506 809 592 994:=by
 k_fillS
 refine' ⟨afC KX G ?_,afC KX G ?_,afC KX G ?_,afC KX G ?_,afC KX G ?_,afC KX G ?_,afF KX G ?_ ?_ ?_ ?_,afF KX G ?_ ?_ ?_ ?_,afF KX G ?_ ?_ ?_ ?_,afF KX G ?_ ?_ ?_ ?_,afF KX G ?_ ?_ ?_ ?_,afK KX G ?_ ?_ ?_ ?_ ?_ ?_,afG ?_ ?_ ?_ ?_ ?_,afF KX G ?_ ?_ ?_ ?_,afD KX G ?_,afF KX G ?_ ?_ ?_ ?_,afC KX G ?_,afC KX G ?_,afC KX G ?_,afC KX G ?_,afF KX G ?_ ?_ ?_ ?_,afF KX G ?_ ?_ ?_ ?_,⟨?_,?_,?_,?_⟩,afI ?_,afH KX G ?_ ?_ ?_ ?_ ?_ ?_ ?_ ?_,afG ?_ ?_ ?_ ?_ ?_,afG ?_ ?_ ?_ ?_ ?_,afG ?_ ?_ ?_ ?_ ?_,afG ?_ ?_ ?_ ?_ ?_,afF KX G ?_ ?_ ?_ ?_,afG ?_ ?_ ?_ ?_ ?_,afD KX G ?_,afD KX G ?_,afG ?_ ?_ ?_ ?_ ?_,afG ?_ ?_ ?_ ?_ ?_,afE KX G ?_ ?_ ?_ ?_,afG ?_ ?_ ?_ ?_ ?_,afG ?_ ?_ ?_ ?_ ?_,afG ?_ ?_ ?_ ?_ ?_,afG ?_ ?_ ?_ ?_ ?_,afG ?_ ?_ ?_ ?_ ?_,afF KX G ?_ ?_ ?_ ?_,afD KX G ?_,afO KX G ?_ ?_,afC KX G ?_,afC KX G ?_,afC KX G ?_,afC KX G ?_,afC KX G ?_,⟨?_,?_,?_,?_⟩,afI ?_,afI ?_,afH KX G ?_ ?_ ?_ ?_ ?_ ?_ ?_ ?_⟩
 all_goals try k_is
 all_goals try k_is
 all_goals try k_is
 all_goals try exact rfl
 all_goals try decide
 all_goals try ((repeat refine .cons (by first |exact ⟨rfl,rfl⟩|exact ⟨rfl,_,rfl⟩|exact ⟨_,rfl⟩) ?_);exact .nil)
set_option maxHeartbeats 0 in
open Cp.Cp.H in
theorem t_d{w:World}{mg:Str->Option Value}{h:Heap}(KX:(hd0.heap_1 w.params).In h)(G:h.Ns mainGlobals mg):Cp.Txd PySem.Challenge.rw_countproofs_s01_answers.prog w (hd0.heap_1 w.params) mg 269 506 809 592 994:=by
 k_fillS
 refine' ⟨⟨?_,?_,?_,?_⟩,afI ?_,afI ?_,afH KX G ?_ ?_ ?_ ?_ ?_ ?_ ?_ ?_,afK KX G ?_ ?_ ?_ ?_ ?_ ?_,afS (afB KX G ?_ rfl) (aeU ?_ ?_ ?_ ?_ ?_) (PySem.W.mg_of KX G ?_) (PySem.W.mg_of KX G ?_) (PySem.W.mg_of KX G ?_) (PySem.W.mg_of KX G ?_) (PySem.W.mg_of KX G ?_) (PySem.W.mg_of KX G ?_),afM KX G ?_ ?_ (afL KX G ?_ ?_) (afL KX G ?_ ?_) (afL KX G ?_ ?_) (afL KX G ?_ ?_) (afL KX G ?_ ?_) (afL KX G ?_ ?_) (afL KX G ?_ ?_) (afL KX G ?_ ?_) (afL KX G ?_ ?_) (afL KX G ?_ ?_) (afL KX G ?_ ?_) (afL KX G ?_ ?_) (afL KX G ?_ ?_) (afL KX G ?_ ?_) (afL KX G ?_ ?_) (afL KX G ?_ ?_),afF KX G ?_ ?_ ?_ ?_,afF KX G ?_ ?_ ?_ ?_,afF KX G ?_ ?_ ?_ ?_,afF KX G ?_ ?_ ?_ ?_,afF KX G ?_ ?_ ?_ ?_,afF KX G ?_ ?_ ?_ ?_,afF KX G ?_ ?_ ?_ ?_,afF KX G ?_ ?_ ?_ ?_,afF KX G ?_ ?_ ?_ ?_,afF KX G ?_ ?_ ?_ ?_,afF KX G ?_ ?_ ?_ ?_,afF KX G ?_ ?_ ?_ ?_,afF KX G ?_ ?_ ?_ ?_,afF KX G ?_ ?_ ?_ ?_,afF KX G ?_ ?_ ?_ ?_,afF KX G ?_ ?_ ?_ ?_,afF KX G ?_ ?_ ?_ ?_,afF KX G ?_ ?_ ?_ ?_,afF KX G ?_ ?_ ?_ ?_,afF KX G ?_ ?_ ?_ ?_,afF KX G ?_ ?_ ?_ ?_,afF KX G ?_ ?_ ?_ ?_,afF KX G ?_ ?_ ?_ ?_,afF KX G ?_ ?_ ?_ ?_,afF KX G ?_ ?_ ?_ ?_,afF KX G ?_ ?_ ?_ ?_,afF KX G ?_ ?_ ?_ ?_,afF KX G ?_ ?_ ?_ ?_,afF KX G ?_ ?_ ?_ ?_,afF KX G ?_ ?_ ?_ ?_,afF KX G ?_ ?_ ?_ ?_,afF KX G ?_ ?_ ?_ ?_,afF KX G ?_ ?_ ?_ ?_,afF KX G ?_ ?_ ?_ ?_,afF KX G ?_ ?_ ?_ ?_,afF KX G ?_ ?_ ?_ ?_,afF KX G ?_ ?_ ?_ ?_,afG ?_ ?_ ?_ ?_ ?_,afG ?_ ?_ ?_ ?_ ?_,afG ?_ ?_ ?_ ?_ ?_,afG ?_ ?_ ?_ ?_ ?_,afG ?_ ?_ ?_ ?_ ?_,afG ?_ ?_ ?_ ?_ ?_,afG ?_ ?_ ?_ ?_ ?_,afG ?_ ?_ ?_ ?_ ?_⟩
 all_goals try k_is
 all_goals try k_is
 all_goals try k_is
 all_goals try exact rfl
 all_goals try decide
 all_goals try ((repeat refine .cons (by first |exact ⟨rfl,rfl⟩|exact ⟨rfl,_,rfl⟩|exact ⟨_,rfl⟩) ?_);exact .nil)
set_option maxHeartbeats 0 in
theorem PySem.Challenge.cw_countproofs_s01_answers_holds : PySem.Challenge.rw_countproofs_s01_answers.Holds := by
 refine hd0.2 ?_
 dsimp only [hd0]
 refine L2.afx (r:=PySem.Challenge.rw_countproofs_s01_answers) (k:=202) (CX:=L2.pd) (ps:=["calls"]) (sp:=Cp.N9) wellK rfl rfl ⟨rfl,by decide,by decide⟩ (fun w h Y=>PySem.W.kIn_of Y) ?F ?S (fun _ _ _ _ z=>z)
 case F=>
  intro w mg fa h Y KX G vC
  open Cp.Cp.H in
  exact fin vC ⟨t_a KX G,t_b KX G,t_c KX G,t_d KX G⟩
 case S=>
  intro K H xs a hO Pr aeM hx
  cases hx with
  |cons h1 h2=>
   cases h2
   cases h1 with
   |ae hs ha=>
    have e:=L2.Uj a.1 _ ha
    subst e
    exact ⟨_,a.1,rfl,hs,aeM,fun H' p hp=>.ae (L2.ao.of hp) (L2.Ui _)⟩
